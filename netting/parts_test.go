package netting_test

import (
	"testing"

	"codend/api"
	"codend/netting"
)

func TestParts(t *testing.T) {
	for _, row := range []struct {
		l     []api.Bar
		parts [][]api.Bar
	}{
		{nil, nil},
		{exampleSheet(), [][]api.Bar{exampleSheet()}},
		{list(bar(0, 0, -1), bar(0, 0, 1)), [][]api.Bar{list(bar(0, 0, -1), bar(0, 0, 1))}},
		{list(bar(0, 0, 1), bar(2, 0, -1)), [][]api.Bar{list(bar(0, 0, 1), bar(2, 0, -1))}},
		{list(bar(0, 0, 1), bar(2, 0, 1)), [][]api.Bar{list(bar(0, 0, 1)), list(bar(2, 0, 1))}},
		{list(bar(0, 0, 1), bar(4, 0, 1)), [][]api.Bar{list(bar(0, 0, 1)), list(bar(4, 0, 1))}},
		{list(bar(0, 0, 1), bar(4, 0, 1), bar(1, 1, 1)), [][]api.Bar{list(bar(0, 0, 1), bar(1, 1, 1)), list(bar(4, 0, 1))}},
		{list(bar(0, 0, 1), bar(2, 0, 1), bar(4, 0, 1), bar(1, 1, 1), bar(5, 1, -1), bar(2, 2, 1)),
			[][]api.Bar{list(bar(0, 0, 1), bar(1, 1, 1), bar(2, 2, 1)), list(bar(2, 0, 1)), list(bar(4, 0, 1), bar(5, 1, -1))}},
		{list(bar(0, 0, 1), bar(4, 0, -1), bar(1, 1, 1), bar(3, 1, -1)), [][]api.Bar{list(bar(0, 0, 1), bar(4, 0, -1), bar(1, 1, 1), bar(3, 1, -1))}},
	} {
		parts, e := netting.Parts(row.l)
		if len(parts) > 0 || len(row.parts) > 0 {
			want(t, "Parts", parts, row.parts)
		}
		want(t, "Parts: error", e, api.OK)
	}
}

// partsByNeighbours joins bars that have a common end, until nothing more is joined.
func partsByNeighbours(l []api.Bar) [][]api.Bar {
	number := make([]int, len(l))
	for i := range number {
		number[i] = i
	}
	for changed := true; changed; {
		changed = false
		for i, a := range l {
			for j, b := range l {
				p, _ := netting.Ends(a)
				q, _ := netting.Ends(b)
				if (p[0] == q[0] || p[0] == q[1] || p[1] == q[0] || p[1] == q[1]) && number[i] < number[j] {
					number[j] = number[i]
					changed = true
				}
			}
		}
	}
	var parts [][]api.Bar
	for n := range l {
		var part []api.Bar
		for i, b := range l {
			if number[i] == n {
				part = append(part, b)
			}
		}
		if len(part) > 0 {
			parts = append(parts, part)
		}
	}
	return parts
}

func TestPartsByNeighbours(t *testing.T) {
	for _, l := range someNets(t) {
		parts, e := netting.Parts(l)
		want(t, "Parts: error", e, api.OK)
		if wanted := partsByNeighbours(l); len(parts) > 0 || len(wanted) > 0 {
			want(t, "Parts", parts, wanted)
		}
	}
}

func TestPartsOfTheLargestNets(t *testing.T) {
	parts, _ := netting.Parts(sheet(t, knot(0, 0), 8, 256))
	want(t, "Parts of a sheet", len(parts), 1)
	var l []api.Bar
	for i := range api.MaxBars {
		l = append(l, bar(2*i, 0, 1))
	}
	parts, _ = netting.Parts(l)
	want(t, "Parts of single bars", len(parts), api.MaxBars)
}

func TestCount(t *testing.T) {
	for _, row := range []struct {
		l []api.Bar
		c netting.Counts
	}{
		{nil, netting.Counts{}},
		{exampleSheet(), netting.Counts{Knots: 8, Bars: 8, Meshes: 1, Parts: 1}},
		{sheet(t, knot(0, 0), 2, 4), netting.Counts{Knots: 13, Bars: 16, Meshes: 4, Parts: 1}},
		{ring(), netting.Counts{Knots: 12, Bars: 12, Parts: 1, Holes: 1}},
		{list(bar(0, 0, 1), bar(4, 0, 1)), netting.Counts{Knots: 4, Bars: 2, Parts: 2}},
		{windowNet(), netting.Counts{Knots: 29, Bars: 29, Parts: 2, Holes: 2}},
	} {
		c, e := netting.Count(row.l)
		want(t, "Count", c, row.c)
		want(t, "Count: error", e, api.OK)
	}
}

// boundedFaces goes around every face of a net with the face on its left, and returns how many faces are meshes, and how many others are bounded.
func boundedFaces(l []api.Bar) (meshes, holes int) {
	steps := [4]api.Knot{knot(1, 1), knot(-1, 1), knot(-1, -1), knot(1, -1)}
	type dart struct {
		from  api.Knot
		there int
	}
	darts := map[dart]bool{}
	for _, b := range l {
		there := 0
		if b.Side == -1 {
			there = 1
		}
		darts[dart{knot(b.X, b.Y), there}] = true
		darts[dart{knot(b.X+b.Side, b.Y+1), there + 2}] = true
	}
	gone := map[dart]bool{}
	for d := range darts {
		area, length := 0, 0
		for !gone[d] {
			gone[d] = true
			to := knot(d.from.X+steps[d.there].X, d.from.Y+steps[d.there].Y)
			area += d.from.X*to.Y - d.from.Y*to.X
			length++
			next := dart{to, (d.there + 1) % 4}
			for !darts[next] {
				next.there = (next.there + 3) % 4
			}
			d = next
		}
		switch {
		case area == 4 && length == 4:
			meshes++
		case area > 0:
			holes++
		}
	}
	return meshes, holes
}

func TestCountByFaces(t *testing.T) {
	for _, l := range someNets(t) {
		c, _ := netting.Count(l)
		meshes, holes := boundedFaces(l)
		want(t, "Count: bars", c.Bars, len(l))
		want(t, "Count: parts", c.Parts, len(partsByNeighbours(l)))
		want(t, "Count: meshes", c.Meshes, meshes)
		want(t, "Count: holes", c.Holes, holes)
	}
}

func TestCountOfAPartInAHole(t *testing.T) {
	l := sheet(t, knot(0, 0), 5, 10)
	for _, k := range []api.Knot{knot(5, 3), knot(4, 4), knot(6, 4), knot(3, 5), knot(7, 5), knot(4, 6), knot(6, 6), knot(5, 7)} {
		around, _ := netting.Around(k)
		l, _ = netting.Minus(l, around)
	}
	outer, _ := netting.Count(l)
	l, _ = netting.Union(l, list(bar(5, 5, 1)))
	c, _ := netting.Count(l)
	want(t, "Count: parts", c.Parts, outer.Parts+1)
	want(t, "Count: holes", []int{c.Holes, outer.Holes}, []int{1, 1})
}

func TestPartFunctionsOfBadNets(t *testing.T) {
	for _, bad := range badNets() {
		parts, e := netting.Parts(bad.l)
		want(t, "Parts", parts, [][]api.Bar(nil))
		want(t, "Parts: error", e, bad.e)
		c, e := netting.Count(bad.l)
		want(t, "Count", c, netting.Counts{})
		want(t, "Count: error", e, bad.e)
	}
}
