package netting_test

import (
	"math"
	"reflect"
	"testing"

	"codend/api"
	"codend/netting"
)

// want reports a result that is not the expected one; empty lists are equal.
func want(t *testing.T, what string, got, wanted any) {
	t.Helper()
	g, w := reflect.ValueOf(got), reflect.ValueOf(wanted)
	if g.Kind() == reflect.Slice && g.Type() == w.Type() && g.Len() == 0 && w.Len() == 0 {
		return
	}
	if !reflect.DeepEqual(got, wanted) {
		t.Errorf("%s: got %v, want %v", what, got, wanted)
	}
}

func knot(x, y int) api.Knot {
	return api.Knot{X: x, Y: y}
}

func bar(x, y, side int) api.Bar {
	return api.Bar{X: x, Y: y, Side: side}
}

func list(bars ...api.Bar) []api.Bar {
	return bars
}

// sheet returns a sheet that is known to be there.
func sheet(t *testing.T, at api.Knot, columns, rows int) []api.Bar {
	t.Helper()
	l, e := netting.Sheet(at, columns, rows)
	if e != api.OK {
		t.Fatalf("Sheet %v %d %d: error %d", at, columns, rows, e)
	}
	return l
}

// exampleSheet is S of the chapter's examples.
func exampleSheet() []api.Bar {
	return list(bar(0, 0, 1), bar(2, 0, -1), bar(2, 0, 1), bar(4, 0, -1), bar(1, 1, -1), bar(1, 1, 1), bar(3, 1, -1), bar(3, 1, 1))
}

// ring is the sheet of example 2 without the bars around the knot 2, 2.
func ring() []api.Bar {
	return list(bar(0, 0, 1), bar(2, 0, -1), bar(2, 0, 1), bar(4, 0, -1), bar(1, 1, -1), bar(3, 1, 1),
		bar(0, 2, 1), bar(4, 2, -1), bar(1, 3, -1), bar(1, 3, 1), bar(3, 3, -1), bar(3, 3, 1))
}

// someNets returns nets of many forms: parts of sheets that lack some of their bars.
func someNets(t *testing.T) [][]api.Bar {
	nets := [][]api.Bar{nil, exampleSheet(), ring(), list(bar(5, 3, 1)), list(bar(0, 0, 1), bar(4, 0, 1)), windowNet()}
	x := uint32(1)
	for _, at := range []api.Knot{knot(0, 0), knot(-7, 3), knot(4, -12), knot(-20, -20)} {
		for columns := 1; columns <= 5; columns++ {
			for _, keep := range []uint32{30, 55, 75, 90, 100} {
				var l []api.Bar
				for _, b := range sheet(t, at, columns, 7-columns) {
					x = x*1664525 + 1013904223
					if (x>>8)%100 < keep {
						l = append(l, b)
					}
				}
				nets = append(nets, l)
			}
		}
	}
	return nets
}

// windowNet has two large holes side by side, one of them with a part inside.
func windowNet() []api.Bar {
	var l []api.Bar
	for y := 0; y <= 12; y++ {
		for x := -8; x <= 4; x++ {
			rising, falling := x+y, x-y
			if (x+y)%2 != 0 || rising < 0 || rising > 8 || falling < -16 || falling > 0 {
				continue
			}
			if rising%8 == 0 && falling > -16 {
				l = append(l, bar(x, y, -1))
			}
			if (falling%8 == 0 || x == 0 && y == 4) && rising < 8 {
				l = append(l, bar(x, y, 1))
			}
		}
	}
	return l
}

// badNets returns lists that are no nets, each with its error.
func badNets() []struct {
	l []api.Bar
	e api.Errno
} {
	return []struct {
		l []api.Bar
		e api.Errno
	}{
		{make([]api.Bar, api.MaxBars+1), api.ErrMany},
		{list(bar(0, 0, 1), bar(100001, 1, 1)), api.ErrRange},
		{list(bar(0, 0, 1), bar(1, 0, 1)), api.ErrLattice},
		{list(bar(0, 0, 1), bar(2, 0, 0)), api.ErrKind},
		{list(bar(2, 0, 1), bar(0, 0, 1)), api.ErrOrder},
		{list(bar(2, 0, 1), bar(2, 0, 1)), api.ErrOrder},
		{list(bar(2, 0, 1), bar(2, 0, -1)), api.ErrOrder},
		{list(bar(1, 1, 1), bar(2, 0, 1)), api.ErrOrder},
	}
}

// extremes are numbers at and beyond all limits.
func extremes() []int {
	return []int{math.MinInt, math.MinInt + 1, -api.MaxNumber, -100001, -100000, -99999, -4, -3, -2, -1, 0, 1, 2, 3, 4, 16, 255, 256, 257, 4096, 4097,
		99999, 100000, 100001, api.MaxNumber, 2147483646, 2147483647, math.MaxInt - 1, math.MaxInt}
}
