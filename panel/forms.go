package panel

import (
	"slices"
	"strings"

	"codend/api"
)

// checked returns a new panel if it is one.
func checked(p Panel) (Panel, api.Errno) {
	if e := CheckPanel(p); e != api.OK {
		return Panel{}, e
	}
	return p, api.OK
}

// Plain returns a panel with its sides in plain form.
func Plain(p Panel) (Panel, api.Errno) {
	if e := CheckPanel(p); e != api.OK {
		return Panel{}, e
	}
	both := sides(p)
	return checked(Panel{Name: p.Name, Width: p.Width, Left: plain(slices.Collect(both[0].steps)), Right: plain(slices.Collect(both[1].steps))})
}

// plain returns the edges of letters in plain form.
func plain(letters []step) []Edge {
	var edges []Edge
	group := Edge{}
	for _, s := range letters {
		if beginsGroup(group, s) {
			edges = append(edges, group)
			group = Edge{}
		}
		group = longer(group, s)
	}
	if group != (Edge{}) {
		edges = append(edges, group)
	}
	return edges
}

// beginsGroup reports whether a letter cannot be added to a group. All letters B and T of a group lead as the group does.
func beginsGroup(group Edge, s step) bool {
	return len(group.Word) == api.MaxLetter || s.letter != point && hasWay(group) && s.out != group.Out
}

func hasWay(group Edge) bool {
	return strings.ContainsRune(group.Word, bar) || strings.ContainsRune(group.Word, mesh)
}

func longer(group Edge, s step) Edge {
	out := group.Out || s.out && s.letter != point
	return Edge{Word: group.Word + string(s.letter), Times: 1, Out: out}
}

// Same reports whether two panels have the same outlines.
func Same(a, b Panel) (bool, api.Errno) {
	if e := first(CheckPanel(a), CheckPanel(b)); e != api.OK {
		return false, e
	}
	x, y := outlines(a), outlines(b)
	return slices.Equal(x[0], y[0]) && slices.Equal(x[1], y[1]), api.OK
}

// Mirror returns a panel with its sides exchanged.
func Mirror(p Panel) (Panel, api.Errno) {
	if e := CheckPanel(p); e != api.OK {
		return Panel{}, e
	}
	return checked(Panel{Name: p.Name, Width: p.Width, Left: slices.Clone(p.Right), Right: slices.Clone(p.Left)})
}

// Turn returns a panel that is turned upside down.
func Turn(p Panel) (Panel, api.Errno) {
	if e := CheckPanel(p); e != api.OK {
		return Panel{}, e
	}
	return checked(Panel{Name: p.Name, Width: upperWidth(p), Left: turned(p.Right), Right: turned(p.Left)})
}

// turned returns the edges of a side as those of the other one, upside down.
func turned(edges []Edge) []Edge {
	out := reversed(edges)
	for i, e := range out {
		out[i] = Edge{Word: string(reversed([]byte(e.Word))), Times: e.Times, Out: !e.Out}
	}
	return out
}

func reversed[T any](list []T) []T {
	out := make([]T, len(list))
	for i, x := range list {
		out[len(list)-1-i] = x
	}
	return out
}

// Stack returns two panels, one above the other, as one.
func Stack(a, b Panel) (Panel, api.Errno) {
	if e := first(CheckPanel(a), CheckPanel(b)); e != api.OK {
		return Panel{}, e
	}
	if upperWidth(a) != b.Width {
		return Panel{}, api.ErrSeam
	}
	return checked(Panel{Name: a.Name, Width: a.Width, Left: together(a.Left, b.Left), Right: together(a.Right, b.Right)})
}

// together returns the edges of two lists in new memory: behind those of the first one there may be others in its own.
func together(a, b []Edge) []Edge {
	out := make([]Edge, len(a)+len(b))
	copy(out[copy(out, a):], b)
	return out
}

// Widen returns a panel whose width is greater by a number.
func Widen(p Panel, by int) (Panel, api.Errno) {
	if e := first(CheckPanel(p), checkRange(by, -MaxWidth, MaxWidth)); e != api.OK {
		return Panel{}, e
	}
	return checked(Panel{Name: p.Name, Width: p.Width + by, Left: slices.Clone(p.Left), Right: slices.Clone(p.Right)})
}
