package panel

import (
	"codend/api"
	"codend/netting"
)

// first returns the first of some errors that is one, or OK.
func first(errs ...api.Errno) api.Errno {
	for _, e := range errs {
		if e != api.OK {
			return e
		}
	}
	return api.OK
}

func checkRange(n, least, greatest int) api.Errno {
	if n < least || n > greatest {
		return api.ErrRange
	}
	return api.OK
}

// CheckEdge returns the first error of an edge, or OK.
func CheckEdge(e Edge) api.Errno {
	return first(checkWord(e.Word), checkRange(e.Times, 1, MaxTimes))
}

func checkWord(w string) api.Errno {
	switch {
	case w == "":
		return api.ErrEmpty
	case len(w) > api.MaxLetter:
		return api.ErrLong
	}
	for _, letter := range w {
		if letter != point && letter != bar && letter != mesh {
			return api.ErrForm
		}
	}
	return api.OK
}

// CheckPanel returns the first error of a panel, or OK.
func CheckPanel(p Panel) api.Errno {
	if e := first(checkName(p.Name), checkRange(p.Width, 1, MaxWidth), checkSide(p.Left), checkSide(p.Right)); e != api.OK {
		return e
	}
	return checkOutlines(outlines(p))
}

func checkName(name string) api.Errno {
	if !netting.IsName(name) {
		return api.ErrName
	}
	return api.OK
}

// checkSide counts the letters of a side before any of them is visited.
func checkSide(edges []Edge) api.Errno {
	if len(edges) > MaxEdges {
		return api.ErrMany
	}
	letters := 0
	for _, e := range edges {
		if err := CheckEdge(e); err != api.OK {
			return err
		}
		letters += len(e.Word) * e.Times
	}
	if letters > MaxSteps {
		return api.ErrMany
	}
	return api.OK
}

func checkOutlines(lines [2][]api.Knot) api.Errno {
	height := heightOf(lines[0])
	switch {
	case height != heightOf(lines[1]):
		return api.ErrShape
	case height == 0:
		return api.ErrEmpty
	case height > MaxHeight || isBeyondReach(lines):
		return api.ErrLarge
	case cross(lines):
		return api.ErrCross
	}
	return api.OK
}

func isBeyondReach(lines [2][]api.Knot) bool {
	least, greatest := span(lines)
	return least < -MaxReach || greatest > MaxReach
}

// cross reports whether two outlines of the same height come too near to each other in a row.
func cross(lines [2][]api.Knot) bool {
	left, right := extents(trace(lines[0])), extents(trace(lines[1]))
	for y := range left {
		if right[y][0]-left[y][1] < 2 {
			return true
		}
	}
	return false
}

// checkPanels returns the first error of a list of panels, or OK.
func checkPanels(l []Panel) api.Errno {
	if len(l) > api.MaxPanels {
		return api.ErrMany
	}
	for i, p := range l {
		if e := checkNext(l[:i], p); e != api.OK {
			return e
		}
	}
	return api.OK
}

// checkNext returns the first error of a panel that comes after others.
func checkNext(before []Panel, p Panel) api.Errno {
	if e := CheckPanel(p); e != api.OK {
		return e
	}
	for _, other := range before {
		if other.Name == p.Name {
			return api.ErrTwice
		}
	}
	return api.OK
}
