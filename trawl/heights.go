package trawl

import (
	"slices"

	"codend/api"
)

// surface is a trawl with the points of its corners.
type surface struct {
	trawl  Trawl
	points map[End]int
}

func surfaceOf(t Trawl) surface {
	return surface{trawl: t, points: t.points()}
}

// link returns a step as a link from point to point.
func (s surface) link(step Step) link {
	corners := s.trawl.cornersOf(step.End)
	l := link{ends: [2]int{s.points[corners[0]], s.points[corners[1]]}, rise: s.trawl.side(step.End).Rise}
	if step.Back {
		return l.turned()
	}
	return l
}

// steps returns a step along each side.
func (t Trawl) steps() []Step {
	return transformed(slices.Collect(t.sides()), func(e End) Step { return Step{End: e} })
}

// web reaches the points by sides. The least point of a piece is the first corner of its first panel.
func (s surface) web() web {
	return newWeb(countOf(s.points), transformed(s.trawl.steps(), s.link))
}

func isNotZero(n int) bool {
	return n != 0
}

// clash returns a way along sides that proves that there are no heights, or nothing.
func (t Trawl) clash() []Step {
	steps := t.steps()
	return transformed(surfaceOf(t).web().contradiction(isNotZero), func(h hop) Step {
		step := steps[h.link]
		step.Back = h.back
		return step
	})
}

// heights returns a function for the height of a corner, or ErrConflict.
func (t Trawl) heights() (func(corner End) int, api.Errno) {
	s := surfaceOf(t)
	w := s.web()
	if len(w.contradiction(isNotZero)) > 0 {
		return nil, api.ErrConflict
	}
	return func(corner End) int { return w.reached[s.points[corner]].rise }, api.OK
}

// Heights returns the height of each corner.
func Heights(t Trawl) ([][]int, api.Errno) {
	if e := CheckTrawl(t); e != api.OK {
		return nil, e
	}
	height, e := t.heights()
	if e != api.OK {
		return nil, e
	}
	return t.perCorner(height), api.OK
}

// Between returns the height of a corner above another one.
func Between(t Trawl, from, to End) (int, api.Errno) {
	if e := first(CheckTrawl(t), t.checkEnd(from), t.checkEnd(to)); e != api.OK {
		return 0, e
	}
	if pieces := t.pieces(); pieces[from.Panel] != pieces[to.Panel] {
		return 0, api.ErrApart
	}
	height, e := t.heights()
	if e != api.OK {
		return 0, e
	}
	return height(to) - height(from), api.OK
}

// Clash returns a way along sides that proves that there are no heights.
func Clash(t Trawl) ([]Step, api.Errno) {
	if e := CheckTrawl(t); e != api.OK {
		return nil, e
	}
	way := t.clash()
	if len(way) == 0 {
		return nil, api.ErrNone
	}
	return way, api.OK
}

// CheckClash returns OK if a way along sides proves that there are no heights.
func CheckClash(t Trawl, l []Step) api.Errno {
	if e := first(CheckTrawl(t), checkList(l, api.MaxList, t.checkStep)); e != api.OK {
		return e
	}
	if !isClash(transformed(l, surfaceOf(t).link)) {
		return api.ErrProof
	}
	return api.OK
}

func (t Trawl) checkStep(_ []Step, s Step) api.Errno {
	return t.checkEnd(s.End)
}

// isClash reports whether links lead from a point to itself with a rise. Without a link there is none.
func isClash(way []link) bool {
	rise := 0
	for i, l := range way {
		before := way[(i+len(way)-1)%len(way)]
		if before.ends[1] != l.ends[0] {
			return false
		}
		rise += l.rise
	}
	return rise != 0
}
