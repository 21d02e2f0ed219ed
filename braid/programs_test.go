package braid_test

import (
	"testing"

	"codend/api"
	"codend/braid"
)

func TestOrderAndNet(t *testing.T) {
	order, e := braid.Order(zigzag())
	want(t, "Order", order, bars(bar(0, 0, 1), bar(2, 0, -1), bar(2, 0, 1), bar(3, 1, -1), bar(1, 1, 1), bar(1, 1, -1)))
	want(t, "Order: error", e, api.OK)
	net, e := braid.Net(zigzag())
	want(t, "Net", net, example())
	want(t, "Net: error", e, api.OK)
	for _, f := range []func([]braid.Course) ([]api.Bar, api.Errno){braid.Order, braid.Net} {
		l, e := f(nil)
		want(t, "the bars of the empty program", l, bars())
		want(t, "the bars of the empty program: error", e, api.OK)
	}
	// a course down, beside one up, both in the row 0
	l := program(leftDown(5, 1, 2), rightUp(-2, 0, 1))
	order, _ = braid.Order(l)
	want(t, "Order", order, bars(bar(4, 0, 1), bar(4, 0, -1), bar(-2, 0, 1)))
	net, _ = braid.Net(l)
	want(t, "Net", net, bars(bar(-2, 0, 1), bar(4, 0, -1), bar(4, 0, 1)))
}

func TestTwines(t *testing.T) {
	for _, x := range []struct {
		l    []braid.Course
		at   []int
		what string
	}{
		{nil, nil, "no course"},
		{zigzag(), []int{0}, "one piece"},
		{program(rightUp(0, 0, 3)), []int{0}, "one course"},
		{program(leftDown(3, 1, 3), rightDown(0, 2, 3)), []int{0, 1}, "worked back"},
		{program(rightUp(0, 0, 3), rightDown(3, 1, 1), leftUp(3, 1, 2), leftUp(1, 1, 1), leftUp(2, 2, 1)), []int{0, 2, 4}, "some that go on"},
		{program(rightUp(0, 0, 2), rightUp(2, 0, 1), rightUp(2, 2, 1)), []int{0, 2}, "the same row"},
		{program(rightUp(2, 0, 2), leftUp(2, 0, 2)), []int{0, 1}, "from the beginning of the course before"},
		{program(rightUp(0, 0, 2), rightUp(6, 0, 2), rightUp(2, 0, 2)), []int{0, 1, 2}, "from the end of a course that is not just before"},
		{program(rightUp(0, 0, 1), rightUp(1, 3, 1)), []int{0, 1}, "two rows above the end"},
	} {
		at, e := braid.Twines(x.l)
		want(t, "Twines: "+x.what, at, x.at)
		want(t, "Twines: error", e, api.OK)
	}
}

func TestFly(t *testing.T) {
	for _, x := range []struct {
		l    []braid.Course
		fly  []api.Knot
		what string
	}{
		{nil, nil, "no course"},
		{zigzag(), nil, "none"},
		{program(rightUp(0, 0, 2), rightUp(-1, 1, 2)), []api.Knot{knot(-1, 1)}, "one on the left"},
		{program(rightUp(0, 0, 2), rightUp(1, 1, 2)), []api.Knot{knot(3, 1)}, "one on the right"},
		{program(rightUp(-8, 0, 1)), nil, "the lowest row"},
		{program(rightDown(-8, 0, 9)), nil, "the lowest row, worked down"},
		{program(rightUp(0, 0, 1), rightUp(0, 6, 2), rightUp(8, 6, 1), rightUp(-4, 8, 1), rightUp(2, 10, 1)), []api.Knot{knot(0, 6), knot(2, 6), knot(8, 6), knot(-4, 8), knot(2, 10)}, "rows that hang on nothing"},
		{program(rightUp(0, 0, 1), rightDown(9, 3, 1), rightUp(-2, 2, 1)), []api.Knot{knot(-2, 2), knot(10, 2)}, "by Y, then by X"},
	} {
		fly, e := braid.Fly(x.l)
		want(t, "Fly: "+x.what, fly, x.fly)
		want(t, "Fly: error", e, api.OK)
	}
}

func TestProgramsByDefinition(t *testing.T) {
	flying := 0
	programs(5, 3000, func(d *dice, l []braid.Course) {
		order, e := braid.Order(l)
		want(t, "Order", order, barsOf(l...))
		want(t, "Order: error", e, api.OK)
		net, _ := braid.Net(l)
		want(t, "Net", net, inOrder(barsOf(l...)))
		twines, _ := braid.Twines(l)
		want(t, "Twines", twines, beginnings(l))
		var wanted []api.Knot
		for _, k := range knotsOf(net) {
			lowest, hangs := true, false
			for _, b := range net {
				lowest = lowest && b.Y >= k.Y
				hangs = hangs || b.Y+1 == k.Y && b.X+b.Side == k.X
			}
			if !lowest && !hangs {
				wanted = append(wanted, k)
			}
		}
		fly, _ := braid.Fly(l)
		want(t, "Fly", fly, wanted)
		flying += len(fly)
		gauge, allowance := 1+d.below(100), d.below(101)
		used, e := braid.Used(l, gauge, allowance)
		knots := len(knotsOf(net))
		want(t, "Used", used, braid.Use{Bars: len(net), Knots: knots, Twines: len(twines), Length: len(net)*gauge + knots*allowance})
		want(t, "Used: error", e, api.OK)
	})
	if flying < 500 {
		t.Errorf("only %d fly knots", flying)
	}
}

func TestUsed(t *testing.T) {
	for _, x := range []struct {
		l                []braid.Course
		gauge, allowance int
		use              braid.Use
	}{
		{zigzag(), 50, 4, braid.Use{Bars: 6, Knots: 6, Twines: 1, Length: 324}},
		{nil, 50, 4, braid.Use{}},
		{program(leftDown(3, 1, 3), rightDown(0, 2, 3)), 1, 0, braid.Use{Bars: 6, Knots: 6, Twines: 2, Length: 6}},
		{program(rightUp(0, 0, 1)), 100, 100, braid.Use{Bars: 1, Knots: 2, Twines: 1, Length: 300}},
		{tower(8, 512), 100, 100, braid.Use{Bars: 4096, Knots: 8*257 + 256, Twines: 8, Length: 409600 + 231200}},
	} {
		use, e := braid.Used(x.l, x.gauge, x.allowance)
		want(t, "Used", use, x.use)
		want(t, "Used: error", e, api.OK)
	}
	for _, n := range extremes() {
		use, e := braid.Used(zigzag(), n, 4)
		wantOnly(t, "Used: the gauge", use, e, inRange(n, 1, 100))
		use, e = braid.Used(zigzag(), 50, n)
		wantOnly(t, "Used: the allowance", use, e, inRange(n, 0, 100))
		use, e = braid.Used(program(rightUp(1, 0, 0)), n, n)
		wantOnly(t, "Used: the program first", use, e, api.ErrLattice)
	}
}
