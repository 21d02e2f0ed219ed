package netting_test

import (
	"math"
	"slices"
	"testing"

	"codend/api"
	"codend/netting"
)

func TestSheet(t *testing.T) {
	for _, row := range []struct {
		at            api.Knot
		columns, rows int
		l             []api.Bar
	}{
		{knot(0, 0), 2, 2, exampleSheet()},
		{knot(0, 0), 1, 1, list(bar(0, 0, 1), bar(2, 0, -1))},
		{knot(-3, 1), 1, 3, list(bar(-3, 1, 1), bar(-1, 1, -1), bar(-2, 2, -1), bar(-2, 2, 1), bar(-3, 3, 1), bar(-1, 3, -1))},
		{knot(99998, 99998), 1, 2, list(bar(99998, 99998, 1), bar(100000, 99998, -1), bar(99999, 99999, -1), bar(99999, 99999, 1))},
		{knot(-100000, -100000), 1, 1, list(bar(-100000, -100000, 1), bar(-99998, -100000, -1))},
	} {
		l, e := netting.Sheet(row.at, row.columns, row.rows)
		want(t, "Sheet", l, row.l)
		want(t, "Sheet: error", e, api.OK)
	}
}

// TestSheetByDefinition holds sheets against all bars that the definition names.
func TestSheetByDefinition(t *testing.T) {
	for _, at := range []api.Knot{knot(0, 0), knot(3, -5), knot(-4, 2)} {
		for columns := 1; columns <= 4; columns++ {
			for rows := 1; rows <= 4; rows++ {
				var wanted []api.Bar
				for y := at.Y; y < at.Y+rows; y++ {
					for x := at.X; x <= at.X+2*columns; x++ {
						for _, side := range []int{-1, 1} {
							if (x+y)%2 == 0 && x+side >= at.X && x+side <= at.X+2*columns {
								wanted = append(wanted, bar(x, y, side))
							}
						}
					}
				}
				want(t, "Sheet", sheet(t, at, columns, rows), wanted)
			}
		}
	}
}

func TestSheetErrors(t *testing.T) {
	for _, row := range []struct {
		at            api.Knot
		columns, rows int
		e             api.Errno
	}{
		{knot(1, 0), 0, 0, api.ErrLattice},
		{knot(100001, 0), 1, 1, api.ErrRange},
		{knot(0, 0), 0, 1, api.ErrRange},
		{knot(0, 0), 1, 0, api.ErrRange},
		{knot(0, 0), -1, -1, api.ErrRange},
		{knot(0, 0), 257, 1, api.ErrRange},
		{knot(0, 0), 1, 257, api.ErrRange},
		{knot(0, 0), math.MaxInt, math.MaxInt, api.ErrRange},
		{knot(0, 0), math.MinInt, 1, api.ErrRange},
		{knot(0, 0), 256, 256, api.ErrMany},
		{knot(0, 0), 256, 9, api.ErrMany},
		{knot(0, 0), 9, 256, api.ErrMany},
		{knot(0, 0), 49, 42, api.ErrMany},
		{knot(0, 0), 3, 683, api.ErrRange},
		{knot(100000, 100000), 256, 9, api.ErrMany},
		{knot(99999, 1), 1, 1, api.ErrRange},
		{knot(100000, 0), 1, 1, api.ErrRange},
		{knot(0, 100000), 1, 1, api.ErrRange},
		{knot(1, 99999), 1, 2, api.ErrRange},
		{knot(99999, 99999), 1, 2, api.ErrRange},
		{knot(99990, 0), 6, 1, api.ErrRange},
		{knot(0, 99990), 1, 11, api.ErrRange},
	} {
		l, e := netting.Sheet(row.at, row.columns, row.rows)
		want(t, "Sheet", l, []api.Bar(nil))
		want(t, "Sheet: error", e, row.e)
	}
	want(t, "Sheet up to the corner", len(sheet(t, knot(99990, 99990), 5, 10)), 100)
	for _, row := range [][2]int{{256, 8}, {8, 256}, {64, 32}, {1, 256}} {
		want(t, "Sheet: bars", len(sheet(t, knot(0, 0), row[0], row[1])), 2*row[0]*row[1])
	}
}

func TestKnots(t *testing.T) {
	for _, row := range []struct {
		l []api.Bar
		k []api.Knot
	}{
		{nil, nil},
		{exampleSheet(), []api.Knot{knot(0, 0), knot(2, 0), knot(4, 0), knot(1, 1), knot(3, 1), knot(0, 2), knot(2, 2), knot(4, 2)}},
		{list(bar(-5, -1, -1)), []api.Knot{knot(-5, -1), knot(-6, 0)}},
		{list(bar(0, 0, -1), bar(0, 0, 1)), []api.Knot{knot(0, 0), knot(-1, 1), knot(1, 1)}},
	} {
		k, e := netting.Knots(row.l)
		want(t, "Knots", k, row.k)
		want(t, "Knots: error", e, api.OK)
	}
}

func TestDegree(t *testing.T) {
	for _, row := range []struct {
		l []api.Bar
		k api.Knot
		n int
		e api.Errno
	}{
		{exampleSheet(), knot(1, 1), 4, api.OK},
		{exampleSheet(), knot(2, 0), 2, api.OK},
		{exampleSheet(), knot(2, 2), 2, api.OK},
		{exampleSheet(), knot(0, 0), 1, api.OK},
		{exampleSheet(), knot(6, 0), 0, api.OK},
		{exampleSheet()[1:], knot(1, 1), 3, api.OK},
		{nil, knot(0, 0), 0, api.OK},
		{exampleSheet(), knot(1, 0), 0, api.ErrLattice},
		{exampleSheet(), knot(0, 100002), 0, api.ErrRange},
		{list(bar(0, 0, 2)), knot(1, 0), 0, api.ErrKind},
		{list(bar(1, 0, 2)), knot(0, 100002), 0, api.ErrLattice},
	} {
		n, e := netting.Degree(row.l, row.k)
		want(t, "Degree", n, row.n)
		want(t, "Degree: error", e, row.e)
	}
}

func TestLegs(t *testing.T) {
	for _, row := range []struct {
		l    []api.Bar
		legs [5]int
	}{
		{nil, [5]int{}},
		{exampleSheet(), [5]int{0, 4, 2, 0, 2}},
		{exampleSheet()[1:], [5]int{0, 3, 2, 1, 1}},
		{ring(), [5]int{0, 4, 4, 4, 0}},
	} {
		legs, e := netting.Legs(row.l)
		want(t, "Legs", legs, row.legs)
		want(t, "Legs: error", e, api.OK)
	}
}

// TestDegreesByEnds holds knots, degrees and legs against the ends of the bars.
func TestDegreesByEnds(t *testing.T) {
	for _, l := range someNets(t) {
		var ends []api.Knot
		for _, b := range l {
			both, _ := netting.Ends(b)
			ends = append(ends, both[0], both[1])
		}
		var legs [5]int
		var knots []api.Knot
		for y := -30; y <= 30; y++ {
			for x := -40; x <= 40; x++ {
				k := knot(x, y)
				n := 0
				for _, end := range ends {
					if end == k {
						n++
					}
				}
				if n > 0 {
					knots = append(knots, k)
					legs[n]++
				}
				if (x+y)%2 == 0 && n > 0 {
					got, _ := netting.Degree(l, k)
					want(t, "Degree", got, n)
				}
			}
		}
		gotKnots, _ := netting.Knots(l)
		want(t, "Knots", gotKnots, knots)
		gotLegs, _ := netting.Legs(l)
		want(t, "Legs", gotLegs, legs)
	}
}

func TestMeshes(t *testing.T) {
	corner := sheet(t, knot(99998, 99998), 1, 2)
	one := list(bar(2, 0, -1), bar(2, 0, 1), bar(1, 1, 1), bar(3, 1, -1))
	for _, row := range []struct {
		l []api.Bar
		m []netting.Mesh
	}{
		{nil, nil},
		{exampleSheet(), []netting.Mesh{{X: 2, Y: 1}}},
		{one, []netting.Mesh{{X: 2, Y: 1}}},
		{ring(), nil},
		{sheet(t, knot(0, 0), 2, 4), []netting.Mesh{{X: 2, Y: 1}, {X: 1, Y: 2}, {X: 3, Y: 2}, {X: 2, Y: 3}}},
		{corner, nil},
		{list(bar(99999, 99997, -1), bar(99999, 99997, 1), bar(99998, 99998, 1), bar(100000, 99998, -1)), []netting.Mesh{{X: 99999, Y: 99998}}},
	} {
		m, e := netting.Meshes(row.l)
		want(t, "Meshes", m, row.m)
		want(t, "Meshes: error", e, api.OK)
	}
	for i := range one {
		m, _ := netting.Meshes(slices.Delete(slices.Clone(one), i, i+1))
		want(t, "Meshes without a bar", m, []netting.Mesh(nil))
	}
}

// TestMeshesByDefinition looks for the four bars of each place.
func TestMeshesByDefinition(t *testing.T) {
	for _, l := range someNets(t) {
		var wanted []netting.Mesh
		for y := -30; y <= 30; y++ {
			for x := -40; x <= 40; x++ {
				if (x+y)%2 != 0 && slices.Contains(l, bar(x, y-1, -1)) && slices.Contains(l, bar(x, y-1, 1)) && slices.Contains(l, bar(x-1, y, 1)) && slices.Contains(l, bar(x+1, y, -1)) {
					wanted = append(wanted, netting.Mesh{X: x, Y: y})
				}
			}
		}
		m, _ := netting.Meshes(l)
		want(t, "Meshes", m, wanted)
	}
}

func TestSheetFunctionsOfBadNets(t *testing.T) {
	for _, bad := range badNets() {
		knots, e := netting.Knots(bad.l)
		want(t, "Knots", knots, []api.Knot(nil))
		want(t, "Knots: error", e, bad.e)
		n, e := netting.Degree(bad.l, knot(0, 0))
		want(t, "Degree", n, 0)
		want(t, "Degree: error", e, bad.e)
		legs, e := netting.Legs(bad.l)
		want(t, "Legs", legs, [5]int{})
		want(t, "Legs: error", e, bad.e)
		m, e := netting.Meshes(bad.l)
		want(t, "Meshes", m, []netting.Mesh(nil))
		want(t, "Meshes: error", e, bad.e)
	}
}
