package panel

import (
	"slices"

	"codend/api"
)

// Cut returns the parts of a panel below and above a row.
func Cut(p Panel, row int) ([2]Panel, api.Errno) {
	if e := CheckPanel(p); e != api.OK {
		return [2]Panel{}, e
	}
	lines := outlines(p)
	if e := checkRange(row, 1, heightOf(lines[0])-1); e != api.OK {
		return [2]Panel{}, e
	}
	left, right := firstIn(lines[0], row), firstIn(lines[1], row)
	if left < 0 || right < 0 {
		return [2]Panel{}, api.ErrRule
	}
	parts := partsAt(p, left, right)
	parts[0].Width = p.Width
	parts[1].Width = (lines[1][right].X - lines[0][left].X) / 2
	if e := first(CheckPanel(parts[0]), CheckPanel(parts[1])); e != api.OK {
		return [2]Panel{}, e
	}
	return parts, api.OK
}

// firstIn returns the index of the first place in a row; it is below 0 if a step N leads over the row.
func firstIn(places []api.Knot, row int) int {
	return slices.IndexFunc(places, func(k api.Knot) bool { return k.Y == row })
}

// partsAt returns the parts with the letters before and from two indices on, still without a width.
func partsAt(p Panel, left, right int) [2]Panel {
	both := sides(p)
	l, r := slices.Collect(both[0].steps), slices.Collect(both[1].steps)
	return [2]Panel{
		{Name: p.Name, Left: plain(l[:left]), Right: plain(r[:right])},
		{Name: p.Name, Left: plain(l[left:]), Right: plain(r[right:])},
	}
}
