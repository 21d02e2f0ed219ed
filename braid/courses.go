package braid

import (
	"iter"

	"codend/api"
)

// Walk returns the knots of a course, in order.
func Walk(c Course) ([]api.Knot, api.Errno) {
	if err := checkCourse(c); err != api.OK {
		return nil, err
	}
	return c.walk(), api.OK
}

func (c Course) walk() []api.Knot {
	knots := []api.Knot{c.At}
	for i := range c.Bars {
		knots = append(knots, c.knot(i+1))
	}
	return knots
}

// knot returns the knot that a course reaches with so many bars.
func (c Course) knot(bars int) api.Knot {
	return api.Knot{X: c.At.X + bars*signOf(c.Right), Y: c.At.Y + bars%2*signOf(c.Up)}
}

func signOf(ahead bool) int {
	if ahead {
		return 1
	}
	return -1
}

// End returns the knot at which a course ends.
func End(c Course) (api.Knot, api.Errno) {
	if err := checkCourse(c); err != api.OK {
		return api.Knot{}, err
	}
	return c.end(), api.OK
}

func (c Course) end() api.Knot {
	return c.knot(c.Bars)
}

// row returns the lesser Y of the knots of a course.
func (c Course) row() int {
	return min(c.At.Y, c.knot(1).Y)
}

// bars visits those that a course makes, in order.
func (c Course) bars() iter.Seq[api.Bar] {
	return func(yield func(api.Bar) bool) {
		for i := range c.Bars {
			if !yield(barBetween(c.knot(i), c.knot(i+1))) {
				return
			}
		}
	}
}

// barBetween returns the bar with both ends.
func barBetween(a, b api.Knot) api.Bar {
	if a.Y > b.Y {
		a, b = b, a
	}
	return api.Bar{X: a.X, Y: a.Y, Side: b.X - a.X}
}
