package bale_test

import (
	"slices"
	"strings"
	"testing"

	"codend/api"
	"codend/bale"
	"codend/panel"
)

func TestCheckBale(t *testing.T) {
	for _, b := range []bale.Bale{sized(1, 1), sized(256, 2000), {Name: strings.Repeat("a", 24), Rows: 2, Length: 9}, {Name: "A_9", Rows: 2, Length: 9}} {
		want(t, "CheckBale", bale.CheckBale(b), api.OK)
		want(t, "CheckStock", bale.CheckStock([]bale.Bale{b}), api.OK)
	}
	for _, bad := range badBales() {
		want(t, "CheckBale", bale.CheckBale(bad.b), bad.e)
		want(t, "CheckStock", bale.CheckStock([]bale.Bale{{Name: "other", Rows: 1, Length: 1}, bad.b, {}}), bad.e)
	}
}

// stockOf returns bales with different names.
func stockOf(count int) []bale.Bale {
	var l []bale.Bale
	for i := range count {
		l = append(l, bale.Bale{Name: "b" + string(rune('a'+i)), Rows: 2, Length: 9})
	}
	return l
}

func TestCheckStock(t *testing.T) {
	want(t, "CheckStock of none", bale.CheckStock(nil), api.OK)
	want(t, "CheckStock of 16", bale.CheckStock(stockOf(16)), api.OK)
	want(t, "CheckStock of 17", bale.CheckStock(stockOf(17)), api.ErrMany)
	want(t, "CheckStock of 17 bad ones", bale.CheckStock(make([]bale.Bale, 17)), api.ErrMany)
	l := stockOf(3)
	l[2] = bale.Bale{Name: l[0].Name, Rows: 7, Length: 7}
	want(t, "CheckStock of a name twice", bale.CheckStock(l), api.ErrTwice)
	l[2].Rows = 0
	want(t, "CheckStock of a bad bale with a name that is there", bale.CheckStock(l), api.ErrRange)
	l[1].Name = l[0].Name
	want(t, "CheckStock of a name twice before a bad bale", bale.CheckStock(l), api.ErrTwice)
}

// manyPieces returns wings with different names.
func manyPieces(count int) []panel.Panel {
	var l []panel.Panel
	for i := range count {
		p := wing()
		p.Name = "p" + string(rune('a'+i))
		l = append(l, p)
	}
	return l
}

func TestCheckPieces(t *testing.T) {
	for _, l := range [][]panel.Panel{nil, examples(), manyPieces(16), list(box("a", 128, 8)), list(box("a", 1, 1), box("A", 1, 1)), list(named("a", 127, edges(in("N", 1)), edges(out("BB", 1))))} {
		want(t, "CheckPieces", bale.CheckPieces(l), api.OK)
	}
	for _, bad := range badPieceLists() {
		want(t, "CheckPieces", bale.CheckPieces(bad.l), bad.e)
	}
	want(t, "CheckPieces of 17", bale.CheckPieces(manyPieces(17)), api.ErrMany)
}

// TestBadArguments gives each function arguments with an error; the first one of them counts.
func TestBadArguments(t *testing.T) {
	b, l := sized(2, 9), examples()
	for _, bad := range badBales() {
		wantError(t, inBale(bad.b, l, nil), bad.e)
		wantError(t, inBale(bad.b, list(panel.Panel{}, panel.Panel{}), places(up(7, 7))), bad.e)
		wantError(t, ofPieces(bad.b, l), bad.e)
		wantError(t, ofPieces(bad.b, make([]panel.Panel, 17)), bad.e)
	}
	for _, bad := range badPieceLists() {
		wantError(t, inBale(b, bad.l, nil), bad.e)
		wantError(t, inBale(b, bad.l, places(up(99, 1))), bad.e)
		wantError(t, ofPlaces(bad.l, nil), bad.e)
		wantError(t, ofPlaces(bad.l, make([]bale.Place, 17)), bad.e)
		wantError(t, ofPieces(b, bad.l), bad.e)
	}
	for _, bad := range badPlans() {
		wantError(t, inBale(b, l, bad.plan), bad.e)
		wantError(t, inBale(sized(1, 1), l, bad.plan), bad.e) // before the places that are outside
		wantError(t, ofPlaces(l, bad.plan), bad.e)
	}
}

func TestCheckPlan(t *testing.T) {
	for _, row := range []struct {
		b    bale.Bale
		l    []panel.Panel
		plan []bale.Place
		e    api.Errno
	}{
		{sized(1, 1), examples(), nil, api.OK},
		{sized(2, 6), examples(), places(up(0, 0), up(1, 6)), api.OK},
		{sized(2, 9), examples(), places(up(0, 0), up(1, 12)), api.OK},
		{sized(2, 9), examples(), places(up(0, 0), up(1, 14)), api.ErrOutside},
		{sized(2, 5), examples(), places(up(0, 0), up(1, 6)), api.ErrOutside},
		{sized(1, 9), examples(), places(up(0, 0)), api.ErrOutside},
		{sized(256, 2000), examples(), places(down(0, -2)), api.ErrOutside},
		{sized(2, 9), examples(), places(up(0, 0), up(1, 4)), api.ErrCross},
		{sized(2, 9), examples(), places(up(1, 6), up(0, 0)), api.ErrCross},
		{sized(2, 9), examples(), places(up(0, 0), up(1, -2)), api.ErrOutside},                                   // before it crosses
		{sized(2, 5), examples(), places(up(0, 0), down(1, 4)), api.ErrCross},                                    // it ends at 10
		{sized(2, 9), list(wing(), door(), box("a", 1, 2)), places(up(0, 0), up(1, 4), up(2, 12)), api.ErrCross}, // the first place with an error
		{sized(2, 9), list(wing(), door(), box("a", 1, 2)), places(up(0, 0), up(2, 12), up(1, 4)), api.ErrOutside},
		{sized(2, 4), list(eaves("a")), places(up(0, 2)), api.OK},
		{sized(2, 4), list(eaves("a")), places(up(0, 0)), api.ErrOutside}, // no bar is there
		{sized(2, 3), list(eaves("a")), places(up(0, 2)), api.ErrOutside}, // nor here
		{sized(1, 3), list(left("a"), right("b")), places(up(0, 2), up(1, 4)), api.ErrOutside},
		{sized(1, 4), list(left("a"), right("b")), places(up(0, 2), up(1, 4)), api.OK}, // both have the knot 4, 0
		{sized(1, 5), list(right("a"), right("b")), places(up(0, 0), up(1, 2)), api.ErrCross},
		{sized(1, 5), list(right("a"), right("b")), places(up(0, 0), up(1, 4)), api.OK},
		{sized(4, 9), list(flag("a"), box("b", 1, 1), box("c", 1, 2)), places(up(0, 0), up(1, 2), up(2, 4)), api.ErrCross}, // c and a cross above b
		{sized(4, 9), list(flag("a"), box("b", 1, 1), box("c", 1, 2)), places(up(0, 0), up(1, 2), up(2, 12)), api.OK},
		{sized(4, 9), list(flag("a"), box("b", 1, 1), box("c", 1, 2)), places(up(0, 0), up(2, 12), up(1, 2)), api.ErrCross}, // not on the right of c
		{sized(256, 2000), list(box("a", 1, 1)), places(up(0, 3998)), api.OK},
		{sized(256, 2000), list(box("a", 1, 1)), places(up(0, 4000)), api.ErrOutside},
		{sized(256, 2000), list(box("a", 1, 1)), places(up(0, 100000)), api.ErrOutside},
	} {
		want(t, "CheckPlan", bale.CheckPlan(row.b, row.l, row.plan), row.e)
	}
}

func TestCheckPlanByDefinition(t *testing.T) {
	d := &dice{3}
	count := map[api.Errno]int{}
	for _, l := range lots(600, 4) {
		plan := d.somePlan(l)
		b := sized(5+d.below(3), 10+d.below(40))
		wanted := errorIn(b, l, plan)
		count[wanted]++
		want(t, "CheckPlan", bale.CheckPlan(b, l, plan), wanted)
	}
	for _, e := range []api.Errno{api.OK, api.ErrOutside, api.ErrCross} {
		if count[e] < 30 {
			t.Errorf("only %d plans have the error %d", count[e], e)
		}
	}
}

func TestCheckPack(t *testing.T) {
	l, two := examples(), stockOf(2)
	whole := places(up(0, 0), up(1, 6))
	for _, row := range []struct {
		stock []bale.Bale
		l     []panel.Panel
		plans [][]bale.Place
		e     api.Errno
	}{
		{nil, nil, nil, api.OK},
		{two, nil, make([][]bale.Place, 2), api.OK},
		{nil, l, nil, api.ErrNone},
		{nil, l, [][]bale.Place{whole}, api.ErrShape},
		{two, l, [][]bale.Place{whole}, api.ErrShape},
		{two, l, [][]bale.Place{whole, nil, nil}, api.ErrShape},
		{two, l, [][]bale.Place{{up(9, 9)}}, api.ErrShape},
		{two, l, [][]bale.Place{whole, nil}, api.OK},
		{two, l, [][]bale.Place{nil, whole}, api.OK},
		{two, l, [][]bale.Place{{up(1, 0)}, {down(0, 8)}}, api.OK},
		{two, l, [][]bale.Place{{up(1, 0)}, nil}, api.ErrNone},
		{two, l, [][]bale.Place{nil, {down(0, 0)}}, api.ErrNone},
		{two, l, [][]bale.Place{whole, {up(0, 0)}}, api.ErrTwice},
		{two, l, [][]bale.Place{whole, {up(1, -2)}}, api.ErrTwice},            // before it is outside
		{two, l, [][]bale.Place{whole, {up(1, 0), up(2, 0)}}, api.ErrUnknown}, // before the piece that is laid
		{two, l, [][]bale.Place{{up(0, 0), up(1, 4)}, {up(2, 0)}}, api.ErrCross},
		{two, l, [][]bale.Place{{up(0, -2)}, {up(0, 0)}}, api.ErrOutside},
		{two, l, [][]bale.Place{{up(0, 0)}, {up(1, 14)}}, api.ErrOutside},
		{two, l, [][]bale.Place{{up(0, 0)}, {up(1, -2)}}, api.ErrOutside},
		{two, l, [][]bale.Place{{up(0, -2)}, nil}, api.ErrOutside}, // before the piece that is missing
		{[]bale.Bale{sized(2, 9), sized(2, 9)}, l, nil, api.ErrTwice},
		{[]bale.Bale{sized(2, 9), sized(0, 9)}, list(panel.Panel{}), nil, api.ErrRange},
		{[]bale.Bale{{Name: "a", Rows: 2, Length: 9}, {Name: "b", Rows: 1, Length: 9}}, l, [][]bale.Place{{up(0, 0)}, {up(1, 0)}}, api.ErrOutside},
	} {
		want(t, "CheckPack", bale.CheckPack(row.stock, row.l, row.plans), row.e)
	}
	for _, bad := range badPlans() {
		want(t, "CheckPack of a bad plan", bale.CheckPack(two, l, [][]bale.Place{bad.plan, whole}), bad.e)
		want(t, "CheckPack of a bad plan", bale.CheckPack(two, l, [][]bale.Place{nil, bad.plan}), bad.e)
	}
	want(t, "CheckPack of 17 bales", bale.CheckPack(stockOf(17), l, make([][]bale.Place, 17)), api.ErrMany)
	want(t, "CheckPack of 16 bales", bale.CheckPack(stockOf(16), l, slices.Insert(make([][]bale.Place, 15), 15, whole)), api.OK)
}
