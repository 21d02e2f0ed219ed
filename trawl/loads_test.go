package trawl_test

import (
	"slices"
	"strings"
	"testing"

	"codend/api"
	"codend/trawl"
)

func load(name string, pull, arm int) trawl.Load {
	return trawl.Load{Name: name, Pull: pull, Arm: arm}
}

func loads(l ...trawl.Load) []trawl.Load {
	return l
}

// judgedLoads returns loads; where one has several errors, or several have one, the first one counts.
func judgedLoads() []judged[[]trawl.Load] {
	a := load("a", 300, -2)
	l := []judged[[]trawl.Load]{
		{nil, api.OK}, {loads(), api.OK}, {loads(a), api.OK}, {loads(a, a), api.OK}, {slices.Repeat(loads(a), 64), api.OK}, {loads(load(strings.Repeat("x", 24), 0, 0), load("Z_9", 1000000, -10000)), api.OK},
		{slices.Repeat(loads(a), 65), api.ErrMany}, {make([]trawl.Load, 65), api.ErrMany}, {make([]trawl.Load, 64), api.ErrName},
		{loads(load("a", 1000001, 0), load("", 0, 0)), api.ErrRange}, {loads(load("", 0, 0), load("a", 1000001, 0)), api.ErrName},
	}
	for _, name := range badNames() {
		l = append(l, judged[[]trawl.Load]{loads(a, load(name, 1, 1)), api.ErrName}, judged[[]trawl.Load]{loads(load(name, 1000001, 10001)), api.ErrName})
	}
	for _, n := range extremes() {
		l = append(l, judged[[]trawl.Load]{loads(a, load("b", n, 0)), inRange(n, -1000000, 1000000)}, judged[[]trawl.Load]{loads(a, load("b", 0, n)), inRange(n, -10000, 10000)})
	}
	return l
}

func TestSum(t *testing.T) {
	for _, row := range []struct {
		l            []trawl.Load
		pull, moment int
	}{
		{loads(load("a", 300, -2), load("b", -500, 4)), -200, -2600},
		{nil, 0, 0},
		{loads(load("a", 7, 0)), 7, 0},
		{loads(load("a", -7, -3)), -7, 21},
		{loads(load("a", 7, 3), load("a", 7, 3), load("a", -14, 3)), 0, 0},
		{slices.Repeat(loads(load("a", 1000000, 10000)), 64), 64000000, 640000000000},
		{slices.Repeat(loads(load("a", -1000000, 10000)), 64), -64000000, -640000000000},
	} {
		pull, moment, e := trawl.Sum(row.l)
		want(t, "Sum: pull", pull, row.pull)
		want(t, "Sum: moment", moment, row.moment)
		want(t, "Sum: error", e, api.OK)
	}
	for _, l := range judgedLoads() {
		pull, moment, e := trawl.Sum(l.x)
		wantOnly(t, "Sum", pair[int, int]{pull, moment}, e, l.e)
	}
}

func TestFloats(t *testing.T) {
	example := loads(load("a", 300, -2), load("b", -500, 4))
	for _, row := range []struct {
		l         []trawl.Load
		lift, arm int
		n         [2]int
		e         api.Errno
	}{
		{example, 100, 13, [2]int{0, 2}, api.OK},
		{example, 50, 13, [2]int{0, 4}, api.OK},
		{example, 100, 12, [2]int{}, api.ErrInfeasible},
		{example, 2600, 1, [2]int{0, 1}, api.OK},
		{example, 1, 2600, [2]int{100, 101}, api.OK},
		{nil, 1, 1, [2]int{0, 0}, api.OK},
		{loads(load("a", 1, 0)), 1, 1, [2]int{0, 0}, api.OK},
		{loads(load("a", -1, 0)), 1, 1, [2]int{1, 1}, api.OK},
		{loads(load("a", -1, 0)), 1000000, 10000, [2]int{1, 1}, api.OK},
		{loads(load("a", -200, 0)), 100, 7, [2]int{1, 1}, api.OK},
		{loads(load("a", -201, 0)), 100, 7, [2]int{2, 2}, api.OK},
		{loads(load("a", -200, 1)), 100, 2, [2]int{1, 2}, api.OK},
		{loads(load("a", -300, 1)), 100, 3, [2]int{1, 2}, api.OK},
		{loads(load("a", -301, 0), load("b", -99, 0), load("c", -300, 1), load("d", 300, 0)), 100, 3, [2]int{2, 3}, api.OK},
		{loads(load("a", 500, 2)), 100, 2, [2]int{5, 0}, api.OK},
		{loads(load("a", 500, -2)), 100, 2, [2]int{0, 5}, api.OK},
		{loads(load("a", 500, -2)), 100, 3, [2]int{}, api.ErrInfeasible},
		{loads(load("a", -10000, 0)), 1, 1, [2]int{5000, 5000}, api.OK},
		{loads(load("a", -9999, 0)), 1, 1, [2]int{5000, 5000}, api.OK},
		{loads(load("a", -10001, 0)), 1, 1, [2]int{}, api.ErrMany},
		{loads(load("a", 10000, 1)), 1, 1, [2]int{10000, 0}, api.OK},
		{loads(load("a", 10000, -1)), 1, 1, [2]int{0, 10000}, api.OK},
		{loads(load("a", 10001, 1)), 1, 1, [2]int{}, api.ErrMany},
		{loads(load("a", 10001, -1)), 1, 1, [2]int{}, api.ErrMany},
		{loads(load("a", -10001, 0), load("b", 1, -1)), 1, 1, [2]int{}, api.ErrMany},
		{loads(load("a", -10000, 0), load("b", 1, -1)), 1, 1, [2]int{4999, 5000}, api.OK},
		{loads(load("a", -1000000, 1)), 1, 10, [2]int{}, api.ErrMany},
		{loads(load("a", -1000000, 1)), 1, 9999, [2]int{}, api.ErrInfeasible},
		{slices.Repeat(loads(load("a", 1000000, 10000)), 64), 1000000, 10000, [2]int{64, 0}, api.OK},
		{slices.Repeat(loads(load("a", -1000000, 10000)), 64), 1000000, 10000, [2]int{0, 64}, api.OK},
		{slices.Repeat(loads(load("a", -1000000, 0)), 64), 6400, 3, [2]int{5000, 5000}, api.OK},
		{slices.Repeat(loads(load("a", -1000000, 0)), 64), 6399, 3, [2]int{}, api.ErrMany},
	} {
		n, e := trawl.Floats(row.l, row.lift, row.arm)
		want(t, "Floats", n, row.n)
		want(t, "Floats: error", e, row.e)
	}
	for _, l := range judgedLoads() {
		for _, lift := range extremes() {
			for _, arm := range extremes() {
				wanted := firstOf(l.e, inRange(lift, 1, 1000000), inRange(arm, 1, 10000))
				n, e := trawl.Floats(l.x, lift, arm)
				if wanted != api.OK {
					wantOnly(t, "Floats", n, e, wanted)
				}
			}
		}
	}
}

// TestFloatsByDefinition tries all numbers of floats, the least ones first.
func TestFloatsByDefinition(t *testing.T) {
	d := &dice{19}
	found := 0
	for range 4000 {
		var l []trawl.Load
		for range d.below(4) {
			l = append(l, load("a", d.below(41)-20, d.below(13)-6))
		}
		lift, arm := 1+d.below(8), 1+d.below(6)
		pull, moment, _ := trawl.Sum(l)
		wanted, e := [2]int{}, api.ErrInfeasible
	search:
		for count := range 1001 {
			for left := range count + 1 {
				right := count - left
				if moment-left*lift*arm+right*lift*arm == 0 && pull+count*lift >= 0 {
					wanted, e = [2]int{left, right}, api.OK
					found++
					break search
				}
			}
		}
		n, err := trawl.Floats(l, lift, arm)
		want(t, "Floats", n, wanted)
		want(t, "Floats: error", err, e)
	}
	if found < 500 {
		t.Errorf("only %d loads are balanced", found)
	}
}
