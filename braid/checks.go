package braid

import (
	"codend/api"
	"codend/netting"
)

// first returns the first of some errors that is one, or OK.
func first(errs ...api.Errno) api.Errno {
	for _, err := range errs {
		if err != api.OK {
			return err
		}
	}
	return api.OK
}

func checkRange(n, least, greatest int) api.Errno {
	if n < least || n > greatest {
		return api.ErrRange
	}
	return api.OK
}

// checkCourse returns the first error of a course, or OK.
func checkCourse(c Course) api.Errno {
	if err := first(netting.CheckKnot(c.At), checkRange(c.Bars, 1, MaxMoves)); err != api.OK {
		return err
	}
	for _, k := range c.walk() {
		if err := netting.CheckKnot(k); err != api.OK {
			return err
		}
	}
	return api.OK
}

// CheckProgram returns the first error of a program, or OK.
func CheckProgram(l []Course) api.Errno {
	if len(l) > MaxCourses {
		return api.ErrMany
	}
	g := newLedger()
	for _, c := range l {
		if err := g.enter(c); err != api.OK {
			return err
		}
	}
	return api.OK
}

// A ledger is what the courses of a program have done so far: how many there are, the row of the last one, and the bars that are made.
type ledger struct {
	courses int
	row     int
	made    map[api.Bar]bool
}

func newLedger() *ledger {
	return &ledger{made: map[api.Bar]bool{}}
}

// enter adds the next course of a program, or returns its error.
func (g *ledger) enter(c Course) api.Errno {
	if err := first(g.checkRoom(), checkCourse(c)); err != api.OK {
		return err
	}
	if err := first(g.checkOrder(c), g.checkNew(c), g.checkSize(c)); err != api.OK {
		return err
	}
	g.courses++
	g.row = c.row()
	for b := range c.bars() {
		g.made[b] = true
	}
	return api.OK
}

func (g *ledger) checkRoom() api.Errno {
	if g.courses == MaxCourses {
		return api.ErrMany
	}
	return api.OK
}

func (g *ledger) checkOrder(c Course) api.Errno {
	if g.courses > 0 && c.row() < g.row {
		return api.ErrOrder
	}
	return api.OK
}

func (g *ledger) checkNew(c Course) api.Errno {
	for b := range c.bars() {
		if g.made[b] {
			return api.ErrTwice
		}
	}
	return api.OK
}

func (g *ledger) checkSize(c Course) api.Errno {
	if len(g.made)+c.Bars > api.MaxBars {
		return api.ErrLarge
	}
	return api.OK
}
