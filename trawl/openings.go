package trawl

import (
	"cmp"
	"slices"

	"codend/api"
)

// next returns the step that follows a step around the same panel.
func (t Trawl) next(s Step) Step {
	count, by := len(t.Panels[s.End.Panel].Sides), 1
	if s.Back {
		by = count - 1
	}
	s.End.Side = (s.End.Side + by) % count
	return s
}

// opening returns the sides of the opening that begins with a free side.
func (t Trawl) opening(from End, mates map[End]mate) []End {
	l := []End{from}
	step := Step{End: from}
walk:
	for {
		step = t.next(step)
		m, sewn := mates[step.End]
		switch {
		case sewn:
			// The corner is at the other end of the mate, unless the seam is twisted: so the walk around its panel has the same direction.
			step = Step{End: m.end, Back: step.Back != m.twisted}
		case step.End == from:
			break walk
		default:
			l = append(l, step.End)
		}
	}
	return l
}

// openings begins an opening with each free side that is in none of those before it.
func (t Trawl) openings() [][]End {
	mates := t.mates()
	seen := map[End]bool{}
	var all [][]End
	for _, end := range t.free() {
		if seen[end] {
			continue
		}
		l := t.opening(end, mates)
		for _, other := range l {
			seen[other] = true
		}
		all = append(all, l)
	}
	return all
}

// Openings returns the openings of a trawl.
func Openings(t Trawl) ([][]End, api.Errno) {
	if e := CheckTrawl(t); e != api.OK {
		return nil, e
	}
	return t.openings(), api.OK
}

// Mouth returns the opening with the most meshes, and their number.
func Mouth(t Trawl) ([]End, int, api.Errno) {
	if e := CheckTrawl(t); e != api.OK {
		return nil, 0, e
	}
	openings := t.openings()
	if len(openings) == 0 {
		return nil, 0, api.ErrNone
	}
	mouth := slices.MaxFunc(openings, func(a, b []End) int { return cmp.Compare(t.meshes(a), t.meshes(b)) })
	return mouth, t.meshes(mouth), api.OK
}

// meshes returns how many meshes some sides have in all.
func (t Trawl) meshes(l []End) int {
	sum := 0
	for _, e := range l {
		sum += t.side(e).Meshes
	}
	return sum
}
