package hang

import (
	"slices"

	"codend/api"
	"codend/netting"
)

// first returns the first of some errors that is one, or OK.
func first(errs ...api.Errno) api.Errno {
	for _, err := range errs {
		if err != api.OK {
			return err
		}
	}
	return api.OK
}

func checkRange(n, least, greatest int) api.Errno {
	if n < least || n > greatest {
		return api.ErrRange
	}
	return api.OK
}

func checkBar(bar int) api.Errno {
	return checkRange(bar, 1, MaxBar)
}

func checkMeshes(meshes int) api.Errno {
	return checkRange(meshes, 1, MaxMeshes)
}

func checkCount(n int) api.Errno {
	return checkRange(n, 0, MaxCount)
}

func checkAllowance(allowance int) api.Errno {
	return checkRange(allowance, 0, MaxAllowance)
}

func checkTex(tex int) api.Errno {
	return checkRange(tex, 1, MaxTex)
}

// checkList returns the first error of a list, each element of which is checked together with those before it.
func checkList[T any](l []T, most int, check func(before []T, x T) api.Errno) api.Errno {
	if len(l) > most {
		return api.ErrMany
	}
	for i, x := range l {
		if err := check(l[:i], x); err != api.OK {
			return err
		}
	}
	return api.OK
}

// CheckRatio returns the first error of a hanging ratio, or OK.
func CheckRatio(e api.Ratio) api.Errno {
	if err := first(checkRange(e.Num, 1, MaxParts), checkRange(e.Den, 1, MaxParts)); err != api.OK {
		return err
	}
	switch {
	case e.Num > e.Den:
		return api.ErrOrder
	case e != ratioOf(e.Num, e.Den):
		return api.ErrForm
	}
	return api.OK
}

// CheckSquare returns the first error of a square, or OK.
func CheckSquare(s Square) api.Errno {
	if err := first(checkRange(s.Num, 0, MaxTop), checkRange(s.Den, 1, MaxBottom)); err != api.OK {
		return err
	}
	if s != squareOf(s.Num, s.Den) {
		return api.ErrForm
	}
	return api.OK
}

// checkHung returns the first error of meshes that are hung with a ratio, or OK.
func checkHung(e api.Ratio, bar, meshes int) api.Errno {
	return first(CheckRatio(e), checkBar(bar), checkMeshes(meshes))
}

func checkSections(l []Section) api.Errno {
	if len(l) == 0 {
		return api.ErrEmpty
	}
	return checkList(l, MaxSections, func(_ []Section, s Section) api.Errno {
		return first(checkMeshes(s.Meshes), CheckRatio(s.Ratio))
	})
}

// checkRope returns the first error of sections and a bar, or OK.
func checkRope(l []Section, bar int) api.Errno {
	return first(checkSections(l), checkBar(bar))
}

// CheckTwines returns the first error of a table of twines, or OK.
func CheckTwines(l []Twine) api.Errno {
	return checkList(l, MaxTwines, func(before []Twine, t Twine) api.Errno {
		return first(checkName(t.Name), checkNew(before, t, Twine.hasNameOf), checkTex(t.Tex), checkRange(t.Thickness, 1, MaxThickness))
	})
}

func checkName(name string) api.Errno {
	if !netting.IsName(name) {
		return api.ErrName
	}
	return api.OK
}

func (t Twine) hasNameOf(other Twine) bool {
	return t.Name == other.Name
}

// checkNew returns ErrTwice if one of some elements is the same thing as the next one.
func checkNew[T any](before []T, x T, isSame func(a, b T) bool) api.Errno {
	if slices.ContainsFunc(before, func(other T) bool { return isSame(other, x) }) {
		return api.ErrTwice
	}
	return api.OK
}

func checkLines(table []Twine, l []Line) api.Errno {
	return checkList(l, MaxLines, func(_ []Line, line Line) api.Errno {
		return first(checkCount(line.Bars), checkCount(line.Knots), checkBar(line.Bar), checkKnown(table, line.Twine))
	})
}

// checkKnown returns ErrUnknown if no twine of a table has a name.
func checkKnown(table []Twine, name string) api.Errno {
	if !slices.ContainsFunc(table, Twine{Name: name}.hasNameOf) {
		return api.ErrUnknown
	}
	return api.OK
}
