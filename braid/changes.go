package braid

import (
	"slices"

	"codend/api"
)

// changed returns a program in which each course is changed.
func changed(l []Course, change func(c *Course)) []Course {
	out := make([]Course, len(l))
	copy(out, l)
	for i := range out {
		change(&out[i])
	}
	return out
}

// Mirror returns a program with left and right exchanged.
func Mirror(l []Course) ([]Course, api.Errno) {
	if err := CheckProgram(l); err != api.OK {
		return nil, err
	}
	return changed(l, func(c *Course) {
		c.At.X = -c.At.X
		c.Right = !c.Right
	}), api.OK
}

// Back returns a program whose courses are worked from their ends.
func Back(l []Course) ([]Course, api.Errno) {
	if err := CheckProgram(l); err != api.OK {
		return nil, err
	}
	return changed(l, func(c *Course) {
		row := c.row()
		c.At = c.end()
		c.Right = !c.Right
		c.Up = c.At.Y == row
	}), api.OK
}

// Lift returns a program that is shifted.
func Lift(l []Course, dx, dy int) ([]Course, api.Errno) {
	if err := first(CheckProgram(l), checkShift(dx), checkShift(dy), checkLattice(dx, dy)); err != api.OK {
		return nil, err
	}
	return program(changed(l, func(c *Course) {
		c.At.X += dx
		c.At.Y += dy
	}))
}

func checkShift(by int) api.Errno {
	return checkRange(by, -2*api.MaxPlace, 2*api.MaxPlace)
}

func checkLattice(x, y int) api.Errno {
	if (x+y)%2 != 0 {
		return api.ErrLattice
	}
	return api.OK
}

// program returns a list of courses if it is a program, and its error otherwise.
func program(l []Course) ([]Course, api.Errno) {
	if err := CheckProgram(l); err != api.OK {
		return nil, err
	}
	return l, api.OK
}

// Then returns two programs, one after another.
func Then(a, b []Course) ([]Course, api.Errno) {
	if err := first(CheckProgram(a), CheckProgram(b)); err != api.OK {
		return nil, err
	}
	return program(slices.Concat(a, b))
}
