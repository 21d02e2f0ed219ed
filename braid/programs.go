package braid

import (
	"cmp"
	"slices"

	"codend/api"
	"codend/netting"
)

// Order returns the bars of a program, in the order in which they are made.
func Order(l []Course) ([]api.Bar, api.Errno) {
	if err := CheckProgram(l); err != api.OK {
		return nil, err
	}
	return orderOf(l), api.OK
}

func orderOf(l []Course) []api.Bar {
	var bars []api.Bar
	for _, c := range l {
		bars = slices.AppendSeq(bars, c.bars())
	}
	return bars
}

// Net returns the net that a program makes.
func Net(l []Course) ([]api.Bar, api.Errno) {
	if err := CheckProgram(l); err != api.OK {
		return nil, err
	}
	return netOf(l), api.OK
}

func netOf(l []Course) []api.Bar {
	net := orderOf(l)
	slices.SortFunc(net, compareBars)
	return net
}

// compareBars compares two bars in the order of bars of a net.
func compareBars(a, b api.Bar) int {
	return cmp.Or(cmp.Compare(a.Y, b.Y), cmp.Compare(a.X, b.X), cmp.Compare(a.Side, b.Side))
}

// Twines returns the courses with which a new piece of twine begins.
func Twines(l []Course) ([]int, api.Errno) {
	if err := CheckProgram(l); err != api.OK {
		return nil, err
	}
	return twinesOf(l), api.OK
}

func twinesOf(l []Course) []int {
	var twines []int
	for i, c := range l {
		if i == 0 || !c.follows(l[i-1]) {
			twines = append(twines, i)
		}
	}
	return twines
}

// follows reports whether a course goes on with the twine of the course before.
func (c Course) follows(before Course) bool {
	return c.At == before.end()
}

// Fly returns the knots of a program that hang on nothing when they are reached from above.
func Fly(l []Course) ([]api.Knot, api.Errno) {
	if err := CheckProgram(l); err != api.OK {
		return nil, err
	}
	net := netOf(l)
	hung := map[api.Knot]bool{}
	for _, b := range net {
		hung[upperEnd(b)] = true
	}
	knots, err := netting.Knots(net)
	return slices.DeleteFunc(knots, func(k api.Knot) bool { return k.Y == net[0].Y || hung[k] }), err
}

func upperEnd(b api.Bar) api.Knot {
	return api.Knot{X: b.X + b.Side, Y: b.Y + 1}
}

// Used returns what a program uses.
func Used(l []Course, gauge, allowance int) (Use, api.Errno) {
	if err := first(CheckProgram(l), checkRange(gauge, 1, MaxGauge), checkRange(allowance, 0, MaxAllowance)); err != api.OK {
		return Use{}, err
	}
	net := netOf(l)
	knots, err := netting.Knots(net)
	return Use{Bars: len(net), Knots: len(knots), Twines: len(twinesOf(l)), Length: len(net)*gauge + len(knots)*allowance}, err
}
