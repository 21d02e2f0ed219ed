package braid_test

import (
	"math"
	"reflect"
	"slices"
	"testing"

	"codend/api"
	"codend/braid"
)

// want reports a result that is not the expected one; empty lists are equal.
func want(t *testing.T, what string, got, wanted any) {
	t.Helper()
	g, w := reflect.ValueOf(got), reflect.ValueOf(wanted)
	if g.Kind() == reflect.Slice && g.Type() == w.Type() && g.Len() == 0 && w.Len() == 0 {
		return
	}
	if !reflect.DeepEqual(got, wanted) {
		t.Errorf("%s: got %v, want %v", what, got, wanted)
	}
}

// wantOnly reports an error that is not the expected one, and anything beside an error.
func wantOnly(t *testing.T, what string, got any, e, wanted api.Errno) {
	t.Helper()
	want(t, what+": error", e, wanted)
	v := reflect.ValueOf(got)
	if e != api.OK && !v.IsZero() && (v.Kind() != reflect.Slice || v.Len() > 0) {
		t.Errorf("%s: %v beside the error %d", what, got, e)
	}
}

func knot(x, y int) api.Knot {
	return api.Knot{X: x, Y: y}
}

func bar(x, y, side int) api.Bar {
	return api.Bar{X: x, Y: y, Side: side}
}

func bars(l ...api.Bar) []api.Bar {
	return l
}

func row(y, first, last int) braid.Row {
	return braid.Row{Y: y, First: first, Last: last}
}

// The four ways of a course.
func rightUp(x, y, n int) braid.Course {
	return braid.Course{At: knot(x, y), Right: true, Up: true, Bars: n}
}

func rightDown(x, y, n int) braid.Course {
	return braid.Course{At: knot(x, y), Right: true, Bars: n}
}

func leftUp(x, y, n int) braid.Course {
	return braid.Course{At: knot(x, y), Up: true, Bars: n}
}

func leftDown(x, y, n int) braid.Course {
	return braid.Course{At: knot(x, y), Bars: n}
}

func program(l ...braid.Course) []braid.Course {
	return l
}

// example is S of the chapter's examples.
func example() []api.Bar {
	return bars(bar(0, 0, 1), bar(2, 0, -1), bar(2, 0, 1), bar(1, 1, -1), bar(1, 1, 1), bar(3, 1, -1))
}

// zigzag is the compiled program of S.
func zigzag() []braid.Course {
	return program(rightUp(0, 0, 3), leftUp(3, 1, 3))
}

// tower has so many courses with so many bars each, one row above the other.
func tower(courses, n int) []braid.Course {
	var l []braid.Course
	for y := range courses {
		l = append(l, rightUp(y%2, y, n))
	}
	return l
}

// judged is an argument with its error, or OK.
type judged[T any] struct {
	x T
	e api.Errno
}

func inRange(n, least, greatest int) api.Errno {
	if n < least || n > greatest {
		return api.ErrRange
	}
	return api.OK
}

func firstOf(l ...api.Errno) api.Errno {
	for _, e := range l {
		if e != api.OK {
			return e
		}
	}
	return api.OK
}

// extremes are numbers at and beyond all limits.
func extremes() []int {
	return []int{math.MinInt, math.MinInt + 1, -1 << 32, -1000000000, -999999999, -200002, -200001, -200000, -100001, -100000, -99999, -513, -512, -3, -2, -1, 0, 1, 2, 3, 4,
		99, 100, 101, 255, 256, 257, 511, 512, 513, 4096, 99999, 100000, 100001, 199999, 200000, 200001, 999999999, 1000000000, 1 << 32, 1 << 62, math.MaxInt - 1, math.MaxInt}
}

// judgedCourses returns courses; where one has several errors, the first one counts.
func judgedCourses() []judged[braid.Course] {
	l := []judged[braid.Course]{
		{rightUp(0, 0, 1), api.OK}, {leftDown(0, 0, 1), api.OK}, {rightUp(0, 0, 512), api.OK}, {leftUp(-3, 7, 511), api.OK},
		{rightUp(1, 0, 1), api.ErrLattice}, {rightUp(-2, 1, 0), api.ErrLattice}, {leftDown(0, -1, 513), api.ErrLattice}, {rightUp(100000, 1, 1), api.ErrLattice},
		{rightUp(100001, 1, 1), api.ErrRange}, {rightUp(100001, 0, 1), api.ErrRange}, {rightUp(0, -100001, 1), api.ErrRange}, {leftUp(-100002, 0, 0), api.ErrRange},
		// a walk that leads out of the lattice on a side
		{rightUp(100000, 0, 1), api.ErrRange}, {rightDown(99999, 1, 1), api.OK}, {rightDown(99999, 1, 2), api.ErrRange}, {rightUp(99600, 0, 400), api.OK}, {rightUp(99600, 0, 401), api.ErrRange}, {rightUp(99601, 1, 400), api.ErrRange},
		{leftUp(-100000, 0, 1), api.ErrRange}, {leftDown(-99999, 1, 1), api.OK}, {leftDown(-99999, 1, 2), api.ErrRange}, {leftUp(-99600, 0, 400), api.OK}, {leftUp(-99600, 0, 401), api.ErrRange}, {leftUp(100000, 0, 512), api.OK},
		// or above or below
		{rightUp(0, 100000, 1), api.ErrRange}, {rightDown(0, 100000, 9), api.OK}, {rightUp(1, 99999, 9), api.OK}, {leftUp(0, 100000, 1), api.ErrRange},
		{rightDown(0, -100000, 1), api.ErrRange}, {rightUp(0, -100000, 9), api.OK}, {leftDown(1, -99999, 9), api.OK}, {leftDown(0, -100000, 1), api.ErrRange},
	}
	for _, n := range extremes() {
		l = append(l, judged[braid.Course]{rightUp(0, 0, n), inRange(n, 1, 512)}, judged[braid.Course]{leftDown(-4, 8, n), inRange(n, 1, 512)})
		if n < -100000 || n > 100000 {
			l = append(l, judged[braid.Course]{leftUp(n, 0, 1), api.ErrRange}, judged[braid.Course]{leftUp(0, n, 1), api.ErrRange}, judged[braid.Course]{leftUp(1, n, n), api.ErrRange}, judged[braid.Course]{leftUp(n, 1, n), api.ErrRange})
		}
	}
	return l
}

// judgedPrograms returns lists of courses; where one has several errors, the first one counts.
func judgedPrograms() []judged[[]braid.Course] {
	bad, far := rightUp(1, 0, 0), rightUp(100000, 0, 1)
	l := []judged[[]braid.Course]{
		{nil, api.OK}, {zigzag(), api.OK}, {program(rightUp(0, 0, 2), rightUp(2, 0, 2)), api.OK}, {program(leftUp(0, 0, 2), rightUp(0, 0, 2)), api.OK},
		{tower(256, 16), api.OK}, {tower(8, 512), api.OK}, {tower(256, 1), api.OK},
		// too many courses, also bad ones
		{tower(257, 1), api.ErrMany}, {make([]braid.Course, 257), api.ErrMany}, {slices.Repeat(program(bad), 300), api.ErrMany}, {append(program(bad), tower(256, 1)...), api.ErrMany}, {append(tower(256, 1), bad), api.ErrMany},
		{make([]braid.Course, 256), api.ErrRange}, {slices.Repeat(program(bad), 256), api.ErrLattice},
		// the first course with an error decides
		{program(rightUp(0, 0, 1), far, bad), api.ErrRange}, {program(rightUp(0, 0, 1), bad, far), api.ErrLattice}, {program(bad, rightUp(0, 0, 1), rightUp(0, 0, 1)), api.ErrLattice},
		// rows that descend
		{program(leftUp(3, 1, 3), rightUp(0, 0, 3)), api.ErrOrder}, {program(rightUp(0, 0, 1), leftDown(0, 0, 1)), api.ErrOrder}, {program(rightDown(0, 0, 1), rightUp(0, 0, 1)), api.OK}, {program(rightUp(0, 2, 1), rightDown(9, 3, 1)), api.OK},
		{program(rightUp(0, 2, 1), rightDown(8, 2, 1)), api.ErrOrder}, {program(rightDown(0, 2, 1), rightUp(8, 2, 1), rightDown(9, 3, 1)), api.OK}, {program(rightUp(0, 2, 1), rightUp(0, 4, 1), rightUp(9, 3, 1)), api.ErrOrder},
		{program(rightUp(0, 0, 1), rightUp(0, 6, 1), rightUp(0, 2, 1), rightUp(0, 6, 1)), api.ErrOrder}, {program(rightUp(0, -6, 1), rightUp(0, -8, 1)), api.ErrOrder}, {program(rightUp(0, -8, 1), rightUp(0, -6, 1)), api.OK},
		// bars that are made twice
		{program(rightUp(0, 0, 3), rightUp(0, 0, 3)), api.ErrTwice}, {program(rightUp(0, 0, 3), leftDown(3, 1, 3)), api.ErrTwice}, {program(rightUp(0, 0, 3), rightUp(2, 0, 3)), api.ErrTwice}, {program(rightUp(0, 0, 3), rightDown(3, 1, 3)), api.OK},
		{program(rightUp(0, 0, 3), rightUp(8, 0, 1), leftDown(1, 1, 1)), api.ErrTwice}, {program(rightUp(0, 0, 2), leftUp(4, 0, 2)), api.OK}, {program(rightUp(0, 0, 2), leftUp(4, 0, 3)), api.ErrTwice},
		{program(rightUp(0, 0, 2), leftUp(1, 1, 2), leftDown(2, 2, 1), leftDown(1, 1, 1)), api.ErrOrder}, {program(rightUp(0, 0, 2), leftUp(1, 1, 2), leftUp(3, 1, 3)), api.ErrTwice},
		{program(rightUp(0, 0, 3), rightUp(0, 0, 3), bad), api.ErrTwice}, {program(rightUp(0, 0, 3), rightUp(0, 0, 513)), api.ErrRange},
		// too many bars together
		{append(tower(8, 512), rightUp(0, 8, 1)), api.ErrLarge}, {append(tower(7, 512), rightUp(0, 8, 511), rightUp(0, 10, 1)), api.OK}, {append(tower(7, 512), rightUp(0, 8, 511), rightUp(0, 10, 2)), api.ErrLarge},
		{append(tower(8, 512), rightUp(0, 8, 0)), api.ErrRange}, {append(tower(8, 512), rightUp(0, 0, 1)), api.ErrOrder}, {append(tower(8, 512), rightUp(1, 7, 1)), api.ErrTwice}, {append(tower(8, 512), leftUp(2, 8, 1), bad), api.ErrLarge},
		{tower(9, 512), api.ErrLarge}, {tower(256, 17), api.ErrLarge}, {tower(256, 512), api.ErrLarge}, {append(append(tower(8, 512), rightUp(0, 8, 1)), rightUp(0, 0, 1)), api.ErrLarge},
	}
	for _, c := range judgedCourses() {
		l = append(l, judged[[]braid.Course]{program(c.x), c.e}, judged[[]braid.Course]{program(rightUp(-50000, -100000, 2), c.x, bad), firstOf(c.e, api.ErrLattice)})
	}
	return l
}

// judgedNets returns lists of bars with all kinds of errors of nets, and some without.
func judgedNets() []judged[[]api.Bar] {
	return []judged[[]api.Bar]{
		{example(), api.OK}, {nil, api.OK}, {bars(bar(0, 0, 1), bar(4, 0, 1)), api.OK}, {bars(bar(100000, 99999, -1)), api.ErrLattice}, {bars(bar(99999, 99999, -1)), api.OK},
		{make([]api.Bar, api.MaxBars+1), api.ErrMany},
		{bars(bar(0, 0, 1), bar(100001, 1, 1)), api.ErrRange}, {bars(bar(100000, 0, 1)), api.ErrRange}, {bars(bar(0, 100000, 1)), api.ErrRange},
		{bars(bar(0, 0, 1), bar(1, 0, 1)), api.ErrLattice}, {bars(bar(0, 0, 1), bar(2, 0, 0)), api.ErrKind}, {bars(bar(0, 0, 1), bar(2, 0, 2), bar(1, 0, 1)), api.ErrKind},
		{bars(bar(2, 0, 1), bar(0, 0, 1)), api.ErrOrder}, {bars(bar(2, 0, 1), bar(2, 0, 1)), api.ErrOrder}, {bars(bar(2, 0, 1), bar(2, 0, -1)), api.ErrOrder}, {bars(bar(1, 1, 1), bar(2, 0, 1)), api.ErrOrder},
	}
}
