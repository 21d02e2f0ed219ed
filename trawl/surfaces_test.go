package trawl_test

import (
	"testing"

	"codend/api"
	"codend/trawl"
)

// surface is a trawl of one piece, with its points, its edges, and its kind.
type surface struct {
	name   string
	x      trawl.Trawl
	points int
	edges  int
	kind   trawl.Kind
}

func kind(twosided bool, handles, openings int) trawl.Kind {
	return trawl.Kind{Twosided: twosided, Handles: handles, Openings: openings}
}

func surfaces() []surface {
	return []surface{
		{"a panel", sewn(polygons(3)), 3, 3, kind(true, 0, 1)},
		{"a cone", sewn(polygons(3), seam(0, 0, 0, 1)), 2, 2, kind(true, 0, 1)},
		{"a cone with the tip at the first corner", sewn(polygons(3), seam(0, 2, 0, 0)), 2, 2, kind(true, 0, 1)},
		{"a Moebius strip", sewn(polygons(3), twisted(0, 0, 0, 1)), 1, 2, kind(false, 1, 1)},
		{"a tube of one panel", sewn(polygons(4), seam(0, 1, 0, 3)), 2, 3, kind(true, 0, 2)},
		{"a strip with a twist", sewn(polygons(4), twisted(0, 1, 0, 3)), 2, 3, kind(false, 1, 1)},
		{"a bag", sewn(polygons(4), seam(0, 0, 0, 1), seam(0, 2, 0, 3)), 3, 2, kind(true, 0, 0)},
		{"a closed surface with a twist", sewn(polygons(4), twisted(0, 0, 0, 2), twisted(0, 1, 0, 3)), 2, 2, kind(false, 1, 0)},
		{"a torus", sewn(polygons(4), seam(0, 0, 0, 2), seam(0, 1, 0, 3)), 1, 2, kind(true, 1, 0)},
		{"a bottle", sewn(polygons(4), seam(0, 0, 0, 2), twisted(0, 1, 0, 3)), 1, 2, kind(false, 2, 0)},
		{"a torus with an opening", sewn(polygons(5), seam(0, 0, 0, 2), seam(0, 1, 0, 3)), 1, 3, kind(true, 1, 1)},
		{"two handles", sewn(polygons(8), seam(0, 0, 0, 2), seam(0, 1, 0, 3), seam(0, 4, 0, 6), seam(0, 5, 0, 7)), 1, 4, kind(true, 2, 0)},
		{"four twists", sewn(polygons(8), twisted(0, 0, 0, 1), twisted(0, 2, 0, 3), twisted(0, 4, 0, 5), twisted(0, 6, 0, 7)), 1, 4, kind(false, 4, 0)},
		{"a pillow", sewn(polygons(3, 3), seam(0, 0, 1, 2), seam(0, 1, 1, 1), seam(0, 2, 1, 0)), 3, 3, kind(true, 0, 0)},
		{"a pillow whose second panel is turned over", sewn(polygons(3, 3), twisted(0, 0, 1, 0), twisted(0, 1, 1, 1), twisted(0, 2, 1, 2)), 3, 3, kind(true, 0, 0)},
		{"trousers", sewn(polygons(6, 6), seam(0, 0, 1, 5), seam(0, 2, 1, 3), seam(0, 4, 1, 1)), 6, 9, kind(true, 0, 3)},
		{"the tube of the examples", tube(false), 4, 6, kind(true, 0, 2)},
		{"the twisted one", tube(true), 4, 6, kind(false, 1, 1)},
	}
}

func TestCornersOfSurfaces(t *testing.T) {
	for _, row := range []struct {
		x trawl.Trawl
		l [][]int
	}{
		{tube(false), [][]int{{0, 1, 2, 3}, {1, 0, 3, 2}}},
		{tube(true), [][]int{{0, 1, 2, 3}, {1, 3, 0, 2}}},
		{sewn(polygons(3)), [][]int{{0, 1, 2}}},
		{sewn(polygons(3), seam(0, 0, 0, 1)), [][]int{{0, 1, 0}}},
		{sewn(polygons(3), seam(0, 2, 0, 0)), [][]int{{0, 1, 1}}},
		{sewn(polygons(3), twisted(0, 0, 0, 1)), [][]int{{0, 0, 0}}},
		{sewn(polygons(3, 4)), [][]int{{0, 1, 2}, {3, 4, 5, 6}}},
		{sewn(polygons(3, 3, 3), seam(0, 0, 2, 0)), [][]int{{0, 1, 2}, {3, 4, 5}, {1, 0, 6}}},
		{sewn(polygons(3, 3, 3), seam(2, 1, 0, 2)), [][]int{{0, 1, 2}, {3, 4, 5}, {6, 0, 2}}},
		{sewn(polygons(5, 3), seam(0, 1, 0, 3)), [][]int{{0, 1, 2, 2, 1}, {3, 4, 5}}},
	} {
		l, e := trawl.Corners(row.x)
		want(t, "Corners", l, row.l)
		want(t, "Corners: error", e, api.OK)
	}
}

func TestPieces(t *testing.T) {
	for _, row := range []struct {
		x trawl.Trawl
		l []int
	}{
		{tube(true), []int{0, 0}},
		{sewn(polygons(3)), []int{0}},
		{sewn(polygons(3, 3, 3)), []int{0, 1, 2}},
		{sewn(polygons(3, 3, 3), seam(2, 0, 0, 0)), []int{0, 1, 0}},
		{sewn(polygons(3, 3, 3), seam(1, 0, 2, 0), seam(1, 1, 1, 2)), []int{0, 1, 1}},
		{sewn(polygons(3, 3, 3, 3, 3), seam(3, 0, 4, 0), seam(1, 0, 4, 1)), []int{0, 1, 2, 1, 1}},
		{sewn(polygons(3, 3, 3, 3), seam(2, 0, 3, 0), seam(0, 0, 1, 0), seam(1, 1, 2, 1)), []int{0, 0, 0, 0}},
		{full(), []int{0, 0, 1, 1, 2, 2, 3, 3, 4, 4, 5, 5, 6, 6, 7, 7}},
	} {
		l, e := trawl.Pieces(row.x)
		want(t, "Pieces", l, row.l)
		want(t, "Pieces: error", e, api.OK)
	}
}

func TestCountAndKindsOfSurfaces(t *testing.T) {
	for _, s := range surfaces() {
		c, e := trawl.Count(s.x)
		want(t, "Count of "+s.name, c, trawl.Counts{Points: s.points, Edges: s.edges, Panels: len(s.x.Panels), Pieces: 1, Openings: s.kind.Openings, Euler: s.points - s.edges + len(s.x.Panels)})
		want(t, "Count: error", e, api.OK)
		k, e := trawl.Kinds(s.x)
		want(t, "Kinds of "+s.name, k, []trawl.Kind{s.kind})
		want(t, "Kinds: error", e, api.OK)
	}
	c, _ := trawl.Count(full())
	want(t, "Count of the fullest trawl", c, trawl.Counts{Points: 64, Edges: 64, Panels: 16, Pieces: 8, Euler: 16})
}

// TestKindsOfSeveralPieces lays two surfaces side by side, with a third one between their panels.
func TestKindsOfSeveralPieces(t *testing.T) {
	for _, one := range surfaces() {
		for _, two := range surfaces() {
			if len(one.x.Panels) != 2 {
				continue
			}
			x := sewn(polygons(len(one.x.Panels[0].Sides), 5, len(one.x.Panels[1].Sides)))
			for i, s := range one.x.Seams {
				s.A.Panel, s.B.Panel = 2*s.A.Panel, 2*s.B.Panel
				x.Seams = append(x.Seams, s)
				if i == 0 {
					x.Seams = append(x.Seams, seam(1, 2, 1, 3))
				}
			}
			for _, p := range two.x.Panels {
				x.Panels = append(x.Panels, polygon("q"+p.Name, len(p.Sides)))
			}
			for _, s := range two.x.Seams {
				s.A.Panel, s.B.Panel = s.A.Panel+3, s.B.Panel+3
				x.Seams = append(x.Seams, s)
			}
			k, e := trawl.Kinds(x)
			want(t, "Kinds of "+one.name+" and "+two.name, k, []trawl.Kind{one.kind, kind(true, 0, 1), two.kind})
			want(t, "Kinds: error", e, api.OK)
		}
	}
}

func TestOpenings(t *testing.T) {
	for _, row := range []struct {
		x trawl.Trawl
		l [][]trawl.End
	}{
		{tube(false), [][]trawl.End{{end(0, 0), end(1, 0)}, {end(0, 2), end(1, 2)}}},
		{tube(true), [][]trawl.End{{end(0, 0), end(1, 0), end(0, 2), end(1, 2)}}},
		{sewn(polygons(3)), [][]trawl.End{{end(0, 0), end(0, 1), end(0, 2)}}},
		{sewn(polygons(3), seam(0, 0, 0, 1)), [][]trawl.End{{end(0, 2)}}},
		{sewn(polygons(3), twisted(0, 0, 0, 1)), [][]trawl.End{{end(0, 2)}}},
		{sewn(polygons(4), seam(0, 3, 0, 1)), [][]trawl.End{{end(0, 0)}, {end(0, 2)}}},
		{sewn(polygons(4), twisted(0, 3, 0, 1)), [][]trawl.End{{end(0, 0), end(0, 2)}}},
		{sewn(polygons(5), twisted(0, 3, 0, 1)), [][]trawl.End{{end(0, 0), end(0, 2), end(0, 4)}}},
		{sewn(polygons(6), twisted(0, 4, 0, 0)), [][]trawl.End{{end(0, 1), end(0, 2), end(0, 3), end(0, 5)}}},
		{sewn(polygons(3, 3), seam(0, 1, 1, 1)), [][]trawl.End{{end(0, 0), end(1, 2), end(1, 0), end(0, 2)}}},
		{sewn(polygons(3, 3), twisted(0, 1, 1, 1)), [][]trawl.End{{end(0, 0), end(1, 0), end(1, 2), end(0, 2)}}},
		{full(), nil},
	} {
		l, e := trawl.Openings(row.x)
		want(t, "Openings", l, row.l)
		want(t, "Openings: error", e, api.OK)
	}
}

func TestMouth(t *testing.T) {
	wide := tube(false)
	wide.Panels[1].Sides[2].Meshes = 11
	narrow := tube(false)
	narrow.Panels[1].Sides[2].Meshes = 9
	few := sewn([]trawl.Panel{panel("a", side(1, 0), side(1, 0), side(1, 0), side(1, 0)), panel("b", side(5, 0), side(1, 0), side(1, 0))}, seam(1, 1, 1, 2))
	for _, row := range []struct {
		x trawl.Trawl
		l []trawl.End
		n int
		e api.Errno
	}{
		{tube(false), []trawl.End{end(0, 0), end(1, 0)}, 20, api.OK},
		{tube(true), []trawl.End{end(0, 0), end(1, 0), end(0, 2), end(1, 2)}, 40, api.OK},
		{wide, []trawl.End{end(0, 2), end(1, 2)}, 21, api.OK},
		{narrow, []trawl.End{end(0, 0), end(1, 0)}, 20, api.OK},
		{few, []trawl.End{end(1, 0)}, 5, api.OK},
		{sewn(polygons(3, 4, 4)), []trawl.End{end(1, 0), end(1, 1), end(1, 2), end(1, 3)}, 40, api.OK},
		{full(), nil, 0, api.ErrNone},
		{surfaces()[6].x, nil, 0, api.ErrNone},
	} {
		l, n, e := trawl.Mouth(row.x)
		want(t, "Mouth", l, row.l)
		want(t, "Mouth: meshes", n, row.n)
		want(t, "Mouth: error", e, row.e)
	}
}

// TestSurfacesByDefinition compares surfaces of all sorts with what the terms say word for word.
func TestSurfacesByDefinition(t *testing.T) {
	trawls(5, 1500, 6, func(_ *dice, x trawl.Trawl) {
		want(t, "CheckTrawl", trawl.CheckTrawl(x), api.OK)
		corners, _ := trawl.Corners(x)
		want(t, "Corners", corners, pointsOf(x))
		pieces, _ := trawl.Pieces(x)
		want(t, "Pieces", pieces, piecesOf(x))
		openings, _ := trawl.Openings(x)
		want(t, "Openings", openings, openingsOf(x))
		c := trawl.Counts{Points: countIn(pointsOf(x)), Edges: len(x.Seams) + len(freeOf(x)), Panels: len(x.Panels), Pieces: countIn([][]int{piecesOf(x)}), Openings: len(openingsOf(x))}
		c.Euler = c.Points - c.Edges + c.Panels
		counts, _ := trawl.Count(x)
		want(t, "Count", counts, c)
		var mouth []trawl.End
		most := 0
		for _, l := range openingsOf(x) {
			sum := 0
			for _, e := range l {
				sum += x.Panels[e.Panel].Sides[e.Side].Meshes
			}
			if sum > most {
				mouth, most = l, sum
			}
		}
		got, n, _ := trawl.Mouth(x)
		want(t, "Mouth", got, mouth)
		want(t, "Mouth: meshes", n, most)
	})
}

// TestKindsByDefinition takes the pieces apart to count them alone.
func TestKindsByDefinition(t *testing.T) {
	trawls(7, 800, 6, func(_ *dice, x trawl.Trawl) {
		var wanted []trawl.Kind
		pieces, points := piecesOf(x), pointsOf(x)
		for piece := range countIn([][]int{pieces}) {
			euler, seen, signs := 0, map[int]bool{}, sewn(x.Panels)
			for p := range x.Panels {
				if pieces[p] == piece {
					euler += 1 - len(points[p])
					for _, point := range points[p] {
						seen[point] = true
					}
				}
			}
			for _, s := range x.Seams {
				if pieces[s.A.Panel] == piece {
					euler++
					signs.Seams = append(signs.Seams, s)
				}
			}
			k := trawl.Kind{Twosided: signsOf(signs) != nil}
			for _, l := range openingsOf(x) {
				if pieces[l[0].Panel] == piece {
					k.Openings++
				}
			}
			k.Handles = 2 - euler - len(seen) - k.Openings
			if k.Twosided {
				want(t, "the rest of Handles", k.Handles%2, 0)
				k.Handles /= 2
			}
			wanted = append(wanted, k)
		}
		got, e := trawl.Kinds(x)
		want(t, "Kinds", got, wanted)
		want(t, "Kinds: error", e, api.OK)
	})
}
