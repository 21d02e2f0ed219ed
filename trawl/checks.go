package trawl

import (
	"slices"

	"codend/api"
	"codend/netting"
)

// first returns the first of some errors that is one, or OK.
func first(errs ...api.Errno) api.Errno {
	for _, e := range errs {
		if e != api.OK {
			return e
		}
	}
	return api.OK
}

func checkRange(n, least, greatest int) api.Errno {
	if n < least || n > greatest {
		return api.ErrRange
	}
	return api.OK
}

// checkIndex returns ErrUnknown if a list of so many elements has none with an index.
func checkIndex(i, count int) api.Errno {
	if i < 0 || i >= count {
		return api.ErrUnknown
	}
	return api.OK
}

// checkList returns the first error of a list, each element of which is checked together with those before it.
func checkList[T any](l []T, most int, check func(before []T, x T) api.Errno) api.Errno {
	if len(l) > most {
		return api.ErrMany
	}
	for i, x := range l {
		if e := check(l[:i], x); e != api.OK {
			return e
		}
	}
	return api.OK
}

// CheckTrawl returns the first error of a trawl, or OK.
func CheckTrawl(t Trawl) api.Errno {
	if len(t.Panels) == 0 {
		return api.ErrEmpty
	}
	return first(checkList(t.Panels, api.MaxPanels, checkPanel), checkList(t.Seams, MaxSeams, t.checkSeam))
}

func checkPanel(before []Panel, p Panel) api.Errno {
	return first(checkName(p.Name), checkNew(before, p.hasNameOf), checkSides(p.Sides))
}

func checkName(name string) api.Errno {
	if !netting.IsName(name) {
		return api.ErrName
	}
	return api.OK
}

func (p Panel) hasNameOf(other Panel) bool {
	return p.Name == other.Name
}

// checkNew returns ErrTwice if one of some elements is the same thing as the next one.
func checkNew[T any](before []T, isSame func(T) bool) api.Errno {
	if slices.ContainsFunc(before, isSame) {
		return api.ErrTwice
	}
	return api.OK
}

func checkSides(l []Side) api.Errno {
	if len(l) < 3 || len(l) > MaxSides {
		return api.ErrShape
	}
	return checkList(l, MaxSides, func(_ []Side, s Side) api.Errno {
		return first(checkRange(s.Meshes, 1, MaxMeshes), checkRange(s.Rise, -MaxRise, MaxRise))
	})
}

// checkEnd returns ErrUnknown if a trawl does not have a side.
func (t Trawl) checkEnd(e End) api.Errno {
	if checkIndex(e.Panel, len(t.Panels)) != api.OK {
		return api.ErrUnknown
	}
	return checkIndex(e.Side, len(t.Panels[e.Panel].Sides))
}

func (t Trawl) checkSeam(before []Seam, s Seam) api.Errno {
	if e := first(t.checkEnd(s.A), t.checkEnd(s.B)); e != api.OK {
		return e
	}
	a, b := t.side(s.A).Meshes, t.side(s.B).Meshes
	switch {
	case s.A == s.B || slices.ContainsFunc(before, s.meets):
		return api.ErrTwice
	case max(a, b) > 2*min(a, b):
		return api.ErrSeam
	}
	return api.OK
}

func (s Seam) has(e End) bool {
	return s.A == e || s.B == e
}

// meets reports whether two seams have a common side.
func (s Seam) meets(other Seam) bool {
	return s.has(other.A) || s.has(other.B)
}

func checkLoads(l []Load) api.Errno {
	return checkList(l, MaxLoads, func(_ []Load, x Load) api.Errno {
		return first(checkName(x.Name), checkRange(x.Pull, -MaxPull, MaxPull), checkRange(x.Arm, -MaxArm, MaxArm))
	})
}
