package netting

import (
	"iter"
	"maps"
	"slices"

	"codend/api"
)

// Sheet returns a sheet with columns and rows.
func Sheet(at api.Knot, columns, rows int) ([]api.Bar, api.Errno) {
	if e := first(CheckKnot(at), checkRange(columns, 1, MaxSide), checkRange(rows, 1, MaxSide)); e != api.OK {
		return nil, e
	}
	if 2*columns*rows > api.MaxBars {
		return nil, api.ErrMany
	}
	if e := first(checkPlace(at.X+2*columns), checkPlace(at.Y+rows)); e != api.OK {
		return nil, e
	}
	var sheet []api.Bar
	for b := range sheetBars(at, columns, rows) {
		sheet = append(sheet, b)
	}
	return sheet, api.OK
}

// sheetBars visits the bars of a sheet in the order of bars.
func sheetBars(at api.Knot, columns, rows int) iter.Seq[api.Bar] {
	return func(yield func(api.Bar) bool) {
		for row := range rows {
			for column := range columns {
				for _, b := range cellBars(at.X+2*column, at.Y+row, row%2 == 1) {
					if !yield(b) {
						return
					}
				}
			}
		}
	}
}

// cellBars returns the two bars between x and x + 2: in the odd rows of a sheet the knots stand in the middle of its columns, in the even ones between them.
func cellBars(x, y int, odd bool) [2]api.Bar {
	if odd {
		return [2]api.Bar{{X: x + 1, Y: y, Side: -1}, {X: x + 1, Y: y, Side: 1}}
	}
	return [2]api.Bar{{X: x, Y: y, Side: 1}, {X: x + 2, Y: y, Side: -1}}
}

// Knots returns the knots of a net.
func Knots(l []api.Bar) ([]api.Knot, api.Errno) {
	if e := CheckNet(l); e != api.OK {
		return nil, e
	}
	return slices.SortedFunc(maps.Keys(degrees(l)), compareKnots), api.OK
}

// degrees returns the degree of each knot of a net.
func degrees(net []api.Bar) map[api.Knot]int {
	degree := map[api.Knot]int{}
	for _, b := range net {
		for _, k := range endsOf(b) {
			degree[k]++
		}
	}
	return degree
}

// Degree returns how many bars of a net end at a knot.
func Degree(l []api.Bar, k api.Knot) (int, api.Errno) {
	if e := first(CheckNet(l), CheckKnot(k)); e != api.OK {
		return 0, e
	}
	return degrees(l)[k], api.OK
}

// Legs returns how many knots of a net have each degree.
func Legs(l []api.Bar) ([5]int, api.Errno) {
	if e := CheckNet(l); e != api.OK {
		return [5]int{}, e
	}
	var legs [5]int
	for _, degree := range degrees(l) {
		legs[degree]++
	}
	return legs, api.OK
}

// Meshes returns the meshes of a net.
func Meshes(l []api.Bar) ([]Mesh, api.Errno) {
	if e := CheckNet(l); e != api.OK {
		return nil, e
	}
	return meshesOf(l), api.OK
}

// meshesOf finds each mesh by the first of its bars, so that they come by Y, then by X.
func meshesOf(net []api.Bar) []Mesh {
	var meshes []Mesh
	for _, b := range net {
		m := Mesh{X: b.X, Y: b.Y + 1}
		if b.Side == -1 && hasMesh(net, m) {
			meshes = append(meshes, m)
		}
	}
	return meshes
}

func hasMesh(net []api.Bar, m Mesh) bool {
	for _, b := range meshBars(m) {
		if !hasBar(net, b) {
			return false
		}
	}
	return true
}

// meshBars returns the four bars of a mesh, in the order of bars.
func meshBars(m Mesh) [4]api.Bar {
	return [4]api.Bar{
		{X: m.X, Y: m.Y - 1, Side: -1},
		{X: m.X, Y: m.Y - 1, Side: 1},
		{X: m.X - 1, Y: m.Y, Side: 1},
		{X: m.X + 1, Y: m.Y, Side: -1},
	}
}
