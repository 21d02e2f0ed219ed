package bale_test

import (
	"testing"

	"codend/api"
	"codend/bale"
	"codend/panel"
)

func TestGap(t *testing.T) {
	belly := named("belly", 1, edges(out("B", 1), in("B", 1)), edges(out("B", 1), in("B", 1)))
	slim := named("slim", 5, edges(in("N", 1)), edges(in("TTTTN", 1)))
	late := named("late", 8, edges(in("TTTTN", 1)), edges(in("N", 1)))
	for _, row := range []struct {
		what string
		a, b panel.Panel
		n    int
	}{
		{"wing and door", wing(), door(), 6},
		{"wing and wing", wing(), wing(), 6},
		{"door and wing", door(), wing(), 6},
		{"door and door", door(), door(), 6},
		{"straight sides", box("a", 3, 1), box("b", 7, 4), 6},
		{"the same slope", right("a"), right("b"), 4},
		{"the same slope to the left", left("a"), left("b"), 4},
		{"slopes that meet in a knot below", left("a"), right("b"), 2},
		{"slopes that meet in a knot above", right("a"), left("b"), 4},
		{"an odd difference", box("a", 2, 1), belly, 6},
		{"an odd difference on both sides", belly, belly, 4},
		{"steps that make room", slim, late, -6},
		{"wedge and wedge", wedge("a"), wedge("b"), 12},
		{"only strips of both", flag("a"), box("b", 1, 1), 2},
		{"strips above those of a", box("b", 1, 1), flag("a"), 2},
		{"all strips of both", flag("a"), box("b", 1, 2), 12},
		{"places without bars", eaves("a"), eaves("b"), 2},
	} {
		n, e := bale.Gap(row.a, row.b)
		want(t, "Gap of "+row.what, n, row.n)
		want(t, "Gap: error", e, api.OK)
	}
	wide := named("wide", 128, edges(in("N", 1)), edges(out("BB", 1)))
	many := box("many", 128, 9)
	for _, row := range []struct {
		a, b panel.Panel
		e    api.Errno
	}{
		{panel.Panel{}, many, api.ErrName},
		{wing(), panel.Panel{}, api.ErrName},
		{wide, many, api.ErrRange},
		{many, wide, api.ErrMany},
		{wing(), wide, api.ErrRange},
		{wing(), many, api.ErrMany},
	} {
		n, e := bale.Gap(row.a, row.b)
		want(t, "Gap", n, 0)
		want(t, "Gap: error", e, row.e)
	}
}

// TestGapByDefinition tries all even numbers.
func TestGapByDefinition(t *testing.T) {
	d := &dice{11}
	below := 0
	for range 2000 {
		a, b := d.piece("a"), d.piece("b")
		other, l, wanted := linesOf(a, false), linesOf(b, false), -200
		for !isApart(other, l, wanted) {
			wanted += 2
		}
		if wanted < 0 {
			below++
		}
		n, e := bale.Gap(a, b)
		want(t, "Gap", n, wanted)
		want(t, "Gap: error", e, api.OK)
	}
	if below < 10 {
		t.Errorf("only %d gaps are below 0", below)
	}
}

func TestLay(t *testing.T) {
	flags := list(flag("a"), box("b", 1, 1), box("c", 1, 2))
	for _, row := range []struct {
		l     []panel.Panel
		order []bale.Place
		plan  []bale.Place
	}{
		{nil, nil, nil},
		{examples(), nil, nil},
		{examples(), places(up(0, 0), up(1, 0)), places(up(0, 0), up(1, 6))},
		{examples(), places(up(0, 0), down(1, 0)), places(up(0, 0), down(1, 6))},
		{examples(), places(down(0, 0), down(1, 0)), places(down(0, 0), down(1, 6))},
		{examples(), places(up(1, -100000), up(0, 100000)), places(up(1, 0), up(0, 6))}, // the numbers have no effect
		{examples(), places(down(1, 0)), places(down(1, 0))},
		{list(eaves("a")), places(up(0, 0)), places(up(0, 2))},
		{list(left("a")), places(up(0, 0)), places(up(0, 2))},
		{list(left("a")), places(down(0, -8)), places(down(0, 2))},
		{flags, places(up(0, 0), up(1, 0), up(2, 0)), places(up(0, 0), up(1, 2), up(2, 12))}, // b ends below the upper part of a
		{flags, places(up(0, 0), up(2, 0), up(1, 0)), places(up(0, 0), up(2, 12), up(1, 14))},
		{flags, places(up(1, 0), up(0, 0), up(2, 0)), places(up(1, 0), up(0, 2), up(2, 14))},
		{list(box("a", 1, 1), hook("b")), places(up(0, 0), down(1, 0)), places(up(0, 0), down(1, 0))}, // it would be apart at -4, too
		{list(wedge("a"), wedge("b")), places(up(0, 0), down(1, 0)), places(up(0, 0), down(1, 4))},
	} {
		plan, e := bale.Lay(row.l, row.order)
		want(t, "Lay", plan, row.plan)
		want(t, "Lay: error", e, api.OK)
	}
}

func TestLayByDefinition(t *testing.T) {
	d := &dice{5}
	for _, l := range lots(300, 5) {
		order := d.someOrder(len(l))
		for i := range order {
			order[i].At = 2 * (d.below(100001) - 50000)
		}
		plan, e := bale.Lay(l, order)
		want(t, "Lay", plan, laidOf(l, order))
		want(t, "Lay: error", e, api.OK)
	}
}

func TestLength(t *testing.T) {
	belly := named("belly", 2, edges(out("B", 1), in("B", 1)), edges(out("B", 1), in("B", 1)))
	for _, row := range []struct {
		l    []panel.Panel
		plan []bale.Place
		n    int
	}{
		{examples(), nil, 0},
		{examples(), places(up(0, 0), up(1, 6)), 6},
		{examples(), places(up(1, 6), up(0, 0)), 6}, // although they cross
		{examples(), places(up(0, 20), up(1, 0)), 13},
		{examples(), places(up(0, -4)), 1},
		{examples(), places(up(0, -6)), 0},
		{examples(), places(up(0, -8)), 0}, // there is no number of meshes below 0
		{examples(), places(down(0, -100000)), 0},
		{examples(), places(down(1, 100000)), 50003},
		{list(belly), places(up(0, 0)), 3}, // up to 5
		{list(belly), places(up(0, 2)), 4},
		{list(eaves("a")), places(up(0, 2)), 4},
		{list(eaves("a")), places(down(0, 4)), 4},
	} {
		n, e := bale.Length(row.l, row.plan)
		want(t, "Length", n, row.n)
		want(t, "Length: error", e, api.OK)
	}
}

func TestLengthByDefinition(t *testing.T) {
	d := &dice{9}
	for _, l := range lots(500, 5) {
		plan := d.somePlan(l)
		n, e := bale.Length(l, plan)
		want(t, "Length", n, lengthOf(l, plan))
		want(t, "Length: error", e, api.OK)
	}
}

func TestNets(t *testing.T) {
	nets, e := bale.Nets(list(left("a"), right("b"), wing()), places(up(1, 4), down(0, -6)))
	want(t, "Nets", nets, [][]api.Bar{
		{bar(4, 0, 1), bar(6, 0, -1), bar(6, 0, 1)},
		{bar(-6, 0, -1), bar(-6, 0, 1), bar(-4, 0, -1)},
	})
	want(t, "Nets: error", e, api.OK)
}

func TestNetsAtTheEnds(t *testing.T) {
	l := list(box("a", 1, 1), wing(), left("l"), eaves("e"))
	for _, row := range []struct {
		plan []bale.Place
		e    api.Errno
	}{
		{places(up(0, 99998)), api.OK},
		{places(up(0, 100000)), api.ErrRange},
		{places(up(0, -100000)), api.OK},
		{places(up(1, 99994)), api.OK},
		{places(up(1, 99996)), api.ErrRange},
		{places(down(1, -100000)), api.OK},
		{places(up(2, -100000)), api.ErrRange},
		{places(up(3, -100000)), api.OK}, // the outline is beyond the lattice, and has no bar there
		{places(up(3, 99998)), api.OK},
		{places(up(0, 0), up(1, 100000)), api.ErrRange},
		{places(up(1, 0), up(0, 2), up(2, 100000)), api.ErrRange},
	} {
		nets, e := bale.Nets(l, row.plan)
		want(t, "Nets: error", e, row.e)
		if e != api.OK {
			want(t, "Nets", nets, [][]api.Bar(nil))
		} else {
			want(t, "Nets", nets, [][]api.Bar{netAt(l, row.plan[0])})
		}
	}
}

func TestNetsByDefinition(t *testing.T) {
	d := &dice{13}
	for _, l := range lots(300, 5) {
		plan := d.somePlan(l)
		var wanted [][]api.Bar
		for _, p := range plan {
			wanted = append(wanted, netAt(l, p))
		}
		nets, e := bale.Nets(l, plan)
		want(t, "Nets", nets, wanted)
		want(t, "Nets: error", e, api.OK)
	}
}
