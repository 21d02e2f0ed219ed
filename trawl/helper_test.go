package trawl_test

import (
	"math"
	"reflect"
	"slices"
	"strconv"
	"strings"
	"testing"

	"codend/api"
	"codend/trawl"
)

// want reports a result that is not the expected one; empty lists are equal.
func want(t *testing.T, what string, got, wanted any) {
	t.Helper()
	g, w := reflect.ValueOf(got), reflect.ValueOf(wanted)
	if g.Kind() == reflect.Slice && g.Type() == w.Type() && g.Len() == 0 && w.Len() == 0 {
		return
	}
	if !reflect.DeepEqual(got, wanted) {
		t.Errorf("%s: got %v, want %v", what, got, wanted)
	}
}

// isZero reports whether a result is its zero value; empty lists are.
func isZero(v reflect.Value) bool {
	switch v.Kind() {
	case reflect.Slice:
		return v.Len() == 0
	case reflect.Struct:
		for i := range v.NumField() {
			if !isZero(v.Field(i)) {
				return false
			}
		}
		return true
	}
	return v.IsZero()
}

// wantOnly reports an error that is not the expected one, and anything beside an error.
func wantOnly(t *testing.T, what string, got any, e, wanted api.Errno) {
	t.Helper()
	want(t, what+": error", e, wanted)
	if e != api.OK && !isZero(reflect.ValueOf(got)) {
		t.Errorf("%s: %v beside the error %d", what, got, e)
	}
}

// wantTrawl reports a trawl that is not the expected one.
func wantTrawl(t *testing.T, what string, got, wanted trawl.Trawl) {
	t.Helper()
	want(t, what+": panels", got.Panels, wanted.Panels)
	want(t, what+": seams", got.Seams, wanted.Seams)
}

func end(panel, side int) trawl.End {
	return trawl.End{Panel: panel, Side: side}
}

func side(meshes, rise int) trawl.Side {
	return trawl.Side{Meshes: meshes, Rise: rise}
}

func panel(name string, l ...trawl.Side) trawl.Panel {
	return trawl.Panel{Name: name, Sides: l}
}

// polygon is a panel of so many level sides.
func polygon(name string, count int) trawl.Panel {
	return panel(name, slices.Repeat([]trawl.Side{side(10, 0)}, count)...)
}

// polygons are panels with different names and so many sides each.
func polygons(counts ...int) []trawl.Panel {
	var l []trawl.Panel
	for i, n := range counts {
		l = append(l, polygon("p"+strconv.Itoa(i), n))
	}
	return l
}

// seam joins the sides i of the panel p and j of q.
func seam(p, i, q, j int) trawl.Seam {
	return trawl.Seam{A: end(p, i), B: end(q, j)}
}

func twisted(p, i, q, j int) trawl.Seam {
	return trawl.Seam{A: end(p, i), B: end(q, j), Twisted: true}
}

func sewn(panels []trawl.Panel, seams ...trawl.Seam) trawl.Trawl {
	return trawl.Trawl{Panels: panels, Seams: seams}
}

func ahead(panel, side int) trawl.Step {
	return trawl.Step{End: end(panel, side)}
}

func back(panel, side int) trawl.Step {
	return trawl.Step{End: end(panel, side), Back: true}
}

func steps(l ...trawl.Step) []trawl.Step {
	return l
}

// tube is the trawl of the chapter's examples, with the second seam twisted or not.
func tube(twist bool) trawl.Trawl {
	named := func(name string) trawl.Panel { return panel(name, side(10, 0), side(20, 5), side(10, 0), side(20, -5)) }
	t := sewn([]trawl.Panel{named("P"), named("Q")}, seam(0, 1, 1, 3), seam(0, 3, 1, 1))
	t.Seams[1].Twisted = twist
	return t
}

// full is a trawl with all panels, sides and seams that the limits permit: closed pieces of two panels.
func full() trawl.Trawl {
	t := sewn(polygons(slices.Repeat([]int{8}, 16)...))
	for pair := range 8 {
		for i := range 8 {
			t.Seams = append(t.Seams, seam(2*pair, i, 2*pair+1, 7-i))
		}
	}
	return t
}

// judged is an argument with its error, or OK.
type judged[T any] struct {
	x T
	e api.Errno
}

func inRange(n, least, greatest int) api.Errno {
	if n < least || n > greatest {
		return api.ErrRange
	}
	return api.OK
}

func firstOf(l ...api.Errno) api.Errno {
	for _, e := range l {
		if e != api.OK {
			return e
		}
	}
	return api.OK
}

// extremes are numbers at and beyond all limits.
func extremes() []int {
	return []int{math.MinInt, math.MinInt + 1, -1 << 32, -1000001, -1000000, -100001, -100000, -10001, -10000, -2, -1, 0, 1, 2, 3, 4, 7, 8, 9, 10, 16, 63, 64, 65,
		256, 257, 9999, 10000, 10001, 99999, 100000, 100001, 1000000, 1000001, 1 << 32, 1 << 62, math.MaxInt - 1, math.MaxInt}
}

// badNames are no names.
func badNames() []string {
	return []string{"", "9", "_a", "a b", "a-b", "\u00e9", "a\n", strings.Repeat("a", 25)}
}

// judgedPanels returns trawls without seams; where one has several errors, the first one counts.
func judgedPanels() []judged[trawl.Trawl] {
	a := polygon("a", 3)
	of := func(l ...trawl.Panel) trawl.Trawl { return sewn(l) }
	l := []judged[trawl.Trawl]{
		{of(a), api.OK}, {of(polygons(slices.Repeat([]int{8}, 16)...)...), api.OK}, {of(a, polygon("A", 8)), api.OK}, {of(polygon(strings.Repeat("Z", 24), 4), polygon("z_9", 5)), api.OK},
		{trawl.Trawl{}, api.ErrEmpty}, {of([]trawl.Panel{}...), api.ErrEmpty}, {sewn(nil, seam(0, 0, 0, 0)), api.ErrEmpty}, {sewn(nil, make([]trawl.Seam, 65)...), api.ErrEmpty},
		{of(polygons(slices.Repeat([]int{3}, 17)...)...), api.ErrMany}, {of(make([]trawl.Panel, 17)...), api.ErrMany}, {of(slices.Repeat([]trawl.Panel{a}, 17)...), api.ErrMany},
		{of(make([]trawl.Panel, 16)...), api.ErrName}, {of(a, a), api.ErrTwice}, {of(a, polygon("b", 3), panel("a")), api.ErrTwice}, {of(a, panel("a", side(0, 0))), api.ErrTwice}, {of(a, panel("a"), panel("")), api.ErrTwice},
		{of(panel("a")), api.ErrShape}, {of(polygon("a", 1)), api.ErrShape}, {of(polygon("a", 2)), api.ErrShape}, {of(polygon("a", 9)), api.ErrShape}, {of(a, panel("b", make([]trawl.Side, 9)...)), api.ErrShape}, {of(panel("a"), panel("")), api.ErrShape},
		{of(panel("a", side(0, 0), side(1, 0), side(1, 0)), panel("b")), api.ErrRange}, {of(a, panel("b", make([]trawl.Side, 3)...)), api.ErrRange},
	}
	for _, name := range badNames() {
		l = append(l, judged[trawl.Trawl]{of(a, polygon(name, 3)), api.ErrName}, judged[trawl.Trawl]{of(panel(name), panel(name)), api.ErrName})
	}
	for _, n := range extremes() {
		l = append(l,
			judged[trawl.Trawl]{of(a, panel("b", side(1, 0), side(n, 0), side(1, 0))), inRange(n, 1, 10000)},
			judged[trawl.Trawl]{of(a, panel("b", side(1, 0), side(1, 0), side(1, n))), inRange(n, -100000, 100000)},
			judged[trawl.Trawl]{sewn([]trawl.Panel{panel("b", side(1, n), side(n, 1), side(1, 1))}, seam(0, 9, 0, 9)), firstOf(inRange(n, -100000, 100000), inRange(n, 1, 10000), api.ErrUnknown)})
	}
	return l
}

// judgedSeams returns a seam behind that of the sides 0 of both panels of joinable; where it has several errors, the first one counts.
func judgedSeams() []judged[trawl.Seam] {
	l := []judged[trawl.Seam]{
		{seam(0, 1, 1, 1), api.OK}, {seam(1, 1, 0, 1), api.OK}, {twisted(0, 1, 1, 1), api.OK}, {seam(0, 1, 0, 2), api.OK}, {seam(0, 2, 0, 1), api.OK},
		{seam(0, 1, 0, 1), api.ErrTwice}, {twisted(1, 3, 1, 3), api.ErrTwice}, {seam(0, 0, 0, 0), api.ErrTwice},
		{seam(0, 0, 1, 1), api.ErrTwice}, {seam(0, 1, 1, 0), api.ErrTwice}, {seam(1, 0, 0, 1), api.ErrTwice}, {seam(1, 1, 0, 0), api.ErrTwice}, {twisted(0, 0, 1, 0), api.ErrTwice}, {seam(1, 0, 0, 0), api.ErrTwice},
		{seam(0, 3, 1, 0), api.ErrTwice}, {seam(0, 0, 0, 3), api.ErrTwice},
		{seam(0, 1, 0, 3), api.ErrSeam}, {seam(0, 3, 0, 1), api.ErrSeam}, {twisted(0, 3, 1, 1), api.ErrSeam}, {seam(0, 2, 0, 3), api.OK}, {seam(0, 3, 1, 2), api.OK}, {seam(1, 3, 1, 1), api.ErrSeam},
	}
	for _, n := range extremes() {
		if n < 0 || n > 1 {
			l = append(l, judged[trawl.Seam]{seam(n, 1, 1, 1), api.ErrUnknown}, judged[trawl.Seam]{seam(1, 1, n, 1), api.ErrUnknown}, judged[trawl.Seam]{seam(n, 0, n, 0), api.ErrUnknown})
		}
		if n < 0 || n > 3 {
			l = append(l, judged[trawl.Seam]{seam(0, n, 1, 1), api.ErrUnknown}, judged[trawl.Seam]{seam(1, 0, 0, n), api.ErrUnknown}, judged[trawl.Seam]{seam(0, n, 0, n), api.ErrUnknown})
		}
	}
	return l
}

// joinable has sides of 10, 10, 20 and 21 meshes and another panel with the same ones; the sides 0 are sewn.
func joinable() trawl.Trawl {
	named := func(name string) trawl.Panel { return panel(name, side(10, 0), side(10, 0), side(20, 0), side(21, 0)) }
	return sewn([]trawl.Panel{named("P"), named("Q")}, seam(0, 0, 1, 0))
}

// judgedTrawls returns trawls with all kinds of errors, and some without.
func judgedTrawls() []judged[trawl.Trawl] {
	l := append(judgedPanels(), judged[trawl.Trawl]{full(), api.OK}, judged[trawl.Trawl]{tube(true), api.OK})
	for _, s := range judgedSeams() {
		x := joinable()
		x.Seams = append(x.Seams, s.x)
		l = append(l, judged[trawl.Trawl]{x, s.e})
		x.Seams = append(x.Seams, seam(0, 0, 0, 0), seam(9, 9, 9, 9))
		l = append(l, judged[trawl.Trawl]{x, firstOf(s.e, api.ErrTwice)})
	}
	many := full()
	many.Seams = append(many.Seams, seam(0, 0, 0, 0))
	wild := full()
	wild.Seams = make([]trawl.Seam, 65)
	named := full()
	named.Seams, named.Panels[15].Name = make([]trawl.Seam, 65), "p0"
	return append(l, judged[trawl.Trawl]{many, api.ErrMany}, judged[trawl.Trawl]{wild, api.ErrMany}, judged[trawl.Trawl]{named, api.ErrTwice})
}
