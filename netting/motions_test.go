package netting_test

import (
	"math"
	"slices"
	"testing"

	"codend/api"
	"codend/netting"
)

// moveEnds returns the net whose bars have the moved ends, by the order of bars.
func moveEnds(l []api.Bar, motion func(k api.Knot) api.Knot) []api.Bar {
	var out []api.Bar
	for _, b := range l {
		p, q := motion(knot(b.X, b.Y)), motion(knot(b.X+b.Side, b.Y+1))
		if q.Y < p.Y {
			p, q = q, p
		}
		out = append(out, bar(p.X, p.Y, q.X-p.X))
	}
	slices.SortFunc(out, orderOfBars)
	return out
}

func orderOfBars(a, b api.Bar) int {
	switch {
	case a.Y != b.Y:
		return a.Y - b.Y
	case a.X != b.X:
		return a.X - b.X
	}
	return a.Side - b.Side
}

func mirrorKnot(k api.Knot) api.Knot {
	return knot(-k.X, k.Y)
}

func turnKnot(k api.Knot) api.Knot {
	return knot(-k.Y, k.X)
}

func TestShift(t *testing.T) {
	for _, row := range []struct {
		l       []api.Bar
		by      api.Knot
		shifted []api.Bar
		e       api.Errno
	}{
		{list(bar(0, 0, 1)), knot(-3, 5), list(bar(-3, 5, 1)), api.OK},
		{list(bar(0, 0, -1), bar(4, 2, 1)), knot(1, 1), list(bar(1, 1, -1), bar(5, 3, 1)), api.OK},
		{exampleSheet(), knot(0, 0), exampleSheet(), api.OK},
		{nil, knot(2, 2), nil, api.OK},
		{list(bar(0, 0, 1)), knot(99999, 99999), list(bar(99999, 99999, 1)), api.OK},
		{list(bar(0, 0, -1)), knot(100000, 0), list(bar(100000, 0, -1)), api.OK},
		{list(bar(0, 0, 1)), knot(-100000, -100000), list(bar(-100000, -100000, 1)), api.OK},
		{list(bar(-100000, -100000, 1)), knot(100000, 100000), list(bar(0, 0, 1)), api.OK},
		{list(bar(0, 0, 1)), knot(100000, 0), nil, api.ErrRange},
		{list(bar(0, 0, -1)), knot(-100000, 0), nil, api.ErrRange},
		{list(bar(0, 0, 1)), knot(0, 100000), nil, api.ErrRange},
		{list(bar(0, -2, 1)), knot(0, -100000), nil, api.ErrRange},
		{list(bar(0, 0, 1), bar(10, 0, 1)), knot(99990, 0), nil, api.ErrRange},
		{list(bar(99999, 99999, 1)), knot(100000, 100000), nil, api.ErrRange},
		{nil, knot(1, 0), nil, api.ErrLattice},
		{nil, knot(100001, 0), nil, api.ErrRange},
		{nil, knot(0, math.MinInt), nil, api.ErrRange},
		{list(bar(0, 0, 1)), knot(1, 0), nil, api.ErrLattice},
	} {
		l, e := netting.Shift(row.l, row.by)
		want(t, "Shift", l, row.shifted)
		want(t, "Shift: error", e, row.e)
	}
}

func TestMirror(t *testing.T) {
	for _, row := range []struct{ l, mirror []api.Bar }{
		{nil, nil},
		{list(bar(2, 0, 1)), list(bar(-2, 0, -1))},
		{list(bar(-3, 1, -1)), list(bar(3, 1, 1))},
		{list(bar(0, 0, 1), bar(2, 0, -1), bar(2, 0, 1)), list(bar(-2, 0, -1), bar(-2, 0, 1), bar(0, 0, -1))},
		{list(bar(100000, 0, -1)), list(bar(-100000, 0, 1))},
	} {
		l, e := netting.Mirror(row.l)
		want(t, "Mirror", l, row.mirror)
		want(t, "Mirror: error", e, api.OK)
	}
}

func TestTurn(t *testing.T) {
	for _, row := range []struct {
		l        []api.Bar
		quarters int
		turned   []api.Bar
	}{
		{list(bar(0, 0, 1)), 0, list(bar(0, 0, 1))},
		{list(bar(0, 0, 1)), 1, list(bar(0, 0, -1))},
		{list(bar(1, 1, -1)), 1, list(bar(-2, 0, 1))},
		{list(bar(0, 0, 1)), 2, list(bar(-1, -1, 1))},
		{list(bar(0, 0, 1)), 3, list(bar(1, -1, -1))},
		{list(bar(0, 0, 1)), 4, list(bar(0, 0, 1))},
		{list(bar(0, 0, 1)), 5, list(bar(0, 0, -1))},
		{list(bar(0, 0, 1)), -1, list(bar(1, -1, -1))},
		{list(bar(0, 0, 1)), -2, list(bar(-1, -1, 1))},
		{list(bar(0, 0, 1)), -7, list(bar(0, 0, -1))},
		{list(bar(0, 0, 1)), math.MaxInt, list(bar(1, -1, -1))},
		{list(bar(0, 0, 1)), math.MinInt, list(bar(0, 0, 1))},
		{list(bar(0, 0, -1), bar(0, 0, 1)), 1, list(bar(-1, -1, 1), bar(0, 0, -1))},
		{list(bar(100000, 0, -1)), 1, list(bar(-1, 99999, 1))},
		{nil, 1, nil},
	} {
		l, e := netting.Turn(row.l, row.quarters)
		want(t, "Turn", l, row.turned)
		want(t, "Turn: error", e, api.OK)
	}
}

func TestMotionsByEnds(t *testing.T) {
	for _, l := range someNets(t) {
		shifted, _ := netting.Shift(l, knot(-11, 7))
		want(t, "Shift", shifted, moveEnds(l, func(k api.Knot) api.Knot { return knot(k.X-11, k.Y+7) }))
		mirror, _ := netting.Mirror(l)
		want(t, "Mirror", mirror, moveEnds(l, mirrorKnot))
		wanted := l
		for quarters := range 5 {
			turned, _ := netting.Turn(l, quarters)
			want(t, "Turn", turned, wanted)
			back, _ := netting.Turn(l, quarters-4)
			want(t, "Turn back", back, wanted)
			wanted = moveEnds(wanted, turnKnot)
		}
	}
}

func TestCanonical(t *testing.T) {
	for _, row := range []struct{ l, form []api.Bar }{
		{nil, nil},
		{list(bar(5, 3, 1)), list(bar(0, 0, -1))},
		{list(bar(4, 4, -1)), list(bar(0, 0, -1))},
		{list(bar(0, 0, 1), bar(2, 0, -1)), list(bar(0, 0, -1), bar(0, 0, 1))},
		{list(bar(3, 1, 1), bar(4, 2, -1)), list(bar(0, 0, -1), bar(0, 0, 1))},
		{list(bar(0, 0, 1), bar(1, 1, 1)), list(bar(0, 0, -1), bar(-1, 1, -1))},
		{list(bar(0, 0, -1), bar(4, 0, 1)), list(bar(0, 0, -1), bar(4, 0, 1))},
	} {
		l, e := netting.Canonical(row.l)
		want(t, "Canonical", l, row.form)
		want(t, "Canonical: error", e, api.OK)
	}
}

// leastForm returns the least of the eight normal forms, and whether all are on the lattice.
func leastForm(l []api.Bar) ([]api.Bar, bool) {
	if len(l) == 0 {
		return nil, true
	}
	var least []api.Bar
	for _, form := range [2][]api.Bar{l, moveEnds(l, mirrorKnot)} {
		for range 4 {
			first := knot(form[0].X, form[0].Y)
			normal := moveEnds(form, func(k api.Knot) api.Knot { return knot(k.X-first.X, k.Y-first.Y) })
			for _, b := range normal {
				if max(b.X, -b.X, b.X+b.Side, -b.X-b.Side, b.Y+1) > api.MaxPlace {
					return nil, false
				}
			}
			if least == nil || slices.CompareFunc(normal, least, orderOfBars) < 0 {
				least = normal
			}
			form = moveEnds(form, turnKnot)
		}
	}
	return least, true
}

func TestCanonicalIsTheLeastForm(t *testing.T) {
	for _, l := range someNets(t) {
		form, e := netting.Canonical(l)
		wanted, _ := leastForm(l)
		want(t, "Canonical", form, wanted)
		want(t, "Canonical: error", e, api.OK)
	}
}

func TestCanonicalOfWideNets(t *testing.T) {
	for _, row := range []struct {
		l []api.Bar
		e api.Errno
	}{
		{list(bar(-99999, -99999, 1), bar(99000, 98000, 1)), api.ErrRange},
		{list(bar(0, 0, 1), bar(99998, 0, 1)), api.OK},
		{list(bar(-50000, 0, 1), bar(49998, 0, 1)), api.OK},
		{list(bar(-50000, 0, 1), bar(50000, 0, 1)), api.ErrRange},
		{list(bar(-50000, 0, -1), bar(50000, 0, -1)), api.ErrRange},
		{list(bar(-50000, 0, 1), bar(50000, 0, -1)), api.OK},
		{list(bar(0, -50000, 1), bar(0, 49998, 1)), api.OK},
		{list(bar(0, -50000, 1), bar(0, 50000, 1)), api.ErrRange},
		{list(bar(-100000, 0, 1)), api.OK},
		// The net is low enough for its own normal form, but its turns are not.
		{list(bar(0, -50000, 1), bar(-80000, 0, 1), bar(80000, 0, 1)), api.ErrRange},
		{list(bar(-40000, 0, 1), bar(40000, 0, 1), bar(-80000, 10, 1)), api.ErrRange},
	} {
		form, e := netting.Canonical(row.l)
		want(t, "Canonical: error", e, row.e)
		wanted, ok := leastForm(row.l)
		want(t, "Canonical", form, wanted)
		want(t, "Canonical: all forms on the lattice", ok, row.e == api.OK)
	}
}

func TestMotionsOfBadNets(t *testing.T) {
	for _, bad := range badNets() {
		for name, call := range map[string]func() ([]api.Bar, api.Errno){
			"Shift":              func() ([]api.Bar, api.Errno) { return netting.Shift(bad.l, knot(0, 0)) },
			"Shift by no knot":   func() ([]api.Bar, api.Errno) { return netting.Shift(bad.l, knot(100001, 0)) },
			"Shift by a bad one": func() ([]api.Bar, api.Errno) { return netting.Shift(bad.l, knot(1, 0)) },
			"Mirror":             func() ([]api.Bar, api.Errno) { return netting.Mirror(bad.l) },
			"Turn":               func() ([]api.Bar, api.Errno) { return netting.Turn(bad.l, 1) },
			"Turn by nothing":    func() ([]api.Bar, api.Errno) { return netting.Turn(bad.l, 0) },
			"Canonical":          func() ([]api.Bar, api.Errno) { return netting.Canonical(bad.l) },
		} {
			l, e := call()
			want(t, name, l, []api.Bar(nil))
			want(t, name+": error", e, bad.e)
		}
	}
}
