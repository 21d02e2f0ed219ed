package netting_test

import (
	"math"
	"slices"
	"strings"
	"testing"

	"codend/api"
	"codend/netting"
)

func TestIsName(t *testing.T) {
	long := strings.Repeat("x", api.MaxName)
	for s, is := range map[string]bool{
		"a": true, "Z": true, "a_9": true, "codEnd42": true, "a__": true, long: true,
		"": false, "_": false, "_a": false, "9": false, "9a": false, long + "x": false, "a-b": false, "a b": false, "a\n": false,
		"é": false, "aé": false, "a\xff": false, "a\x00": false, strings.Repeat("é", 12): false,
	} {
		want(t, "IsName "+s, netting.IsName(s), is)
	}
}

func TestIsNameOfEachByte(t *testing.T) {
	const letters = "ABCDEFGHIJKLMNOPQRSTUVWXYZabcdefghijklmnopqrstuvwxyz"
	for c := 0; c < 256; c++ {
		s := string([]byte{byte(c)})
		want(t, "IsName of the byte "+s, netting.IsName(s), strings.Contains(letters, s))
		want(t, "IsName of a and the byte "+s, netting.IsName("a"+s), strings.Contains(letters+"0123456789_", s))
	}
}

func TestDraw(t *testing.T) {
	for _, row := range []struct {
		key, n int
		l      []int
	}{
		{1, 3, []int{0, 2, 1}},
		{12345, 10, []int{1, 4, 7, 8, 0, 3, 6, 2, 9, 5}},
		{2147483646, 8, []int{5, 1, 6, 7, 3, 0, 4, 2}},
		{7, 1, []int{0}},
		{99, 2, []int{0, 1}},
		{1, 0, nil},
	} {
		l, e := netting.Draw(row.key, row.n)
		want(t, "Draw", l, row.l)
		want(t, "Draw: error", e, api.OK)
	}
	sum := 0
	l, _ := netting.Draw(2147483646, api.MaxList)
	for i, x := range l {
		sum += i * x
	}
	want(t, "Draw of the longest list", sum, 4159341)
	slices.Sort(l)
	for i := range api.MaxList {
		want(t, "Draw: sorted", l[i], i)
	}
}

func TestDrawErrors(t *testing.T) {
	for _, row := range []struct{ key, n int }{{0, 3}, {-1, 3}, {2147483647, 3}, {math.MaxInt, 3}, {math.MinInt, 3}, {1, -1}, {1, 257}, {1, math.MaxInt}, {1, math.MinInt}, {0, 0}} {
		l, e := netting.Draw(row.key, row.n)
		want(t, "Draw", l, []int(nil))
		want(t, "Draw: error", e, api.ErrRange)
	}
}

func TestCheckKnot(t *testing.T) {
	for _, row := range []struct {
		k api.Knot
		e api.Errno
	}{
		{knot(0, 0), api.OK}, {knot(1, -3), api.OK}, {knot(-1, 3), api.OK}, {knot(100000, 100000), api.OK}, {knot(-100000, -100000), api.OK}, {knot(-99999, 99999), api.OK},
		{knot(1, 0), api.ErrLattice}, {knot(0, -1), api.ErrLattice}, {knot(-1, 0), api.ErrLattice}, {knot(99999, 100000), api.ErrLattice},
		{knot(100001, 0), api.ErrRange}, {knot(0, 100001), api.ErrRange}, {knot(-100001, 0), api.ErrRange}, {knot(0, -100001), api.ErrRange},
		{knot(100001, 1), api.ErrRange}, {knot(1, -100001), api.ErrRange}, {knot(100002, 0), api.ErrRange}, {knot(0, -100002), api.ErrRange},
		{knot(math.MinInt, 0), api.ErrRange}, {knot(0, math.MaxInt), api.ErrRange},
	} {
		want(t, "CheckKnot", netting.CheckKnot(row.k), row.e)
	}
}

func TestCheckBar(t *testing.T) {
	for _, row := range []struct {
		b api.Bar
		e api.Errno
	}{
		{bar(0, 0, 1), api.OK}, {bar(0, 0, -1), api.OK}, {bar(-3, 1, 1), api.OK},
		{bar(100000, 0, -1), api.OK}, {bar(-100000, 0, 1), api.OK}, {bar(99999, 1, 1), api.OK}, {bar(1, 99999, 1), api.OK}, {bar(0, -100000, 1), api.OK},
		{bar(100000, 0, 1), api.ErrRange}, {bar(-100000, 0, -1), api.ErrRange}, {bar(0, 100000, 1), api.ErrRange}, {bar(0, 100000, -1), api.ErrRange},
		{bar(100002, 0, -1), api.ErrRange}, {bar(0, 100002, 1), api.ErrRange}, {bar(0, -100002, 1), api.ErrRange},
		{bar(1, 0, 1), api.ErrLattice}, {bar(1, 0, 5), api.ErrLattice}, {bar(1, 100000, 1), api.ErrLattice},
		{bar(0, 0, 0), api.ErrKind}, {bar(0, 0, 2), api.ErrKind}, {bar(0, 0, -2), api.ErrKind}, {bar(0, 100000, 0), api.ErrKind}, {bar(100000, 0, 3), api.ErrKind},
		{bar(0, 0, math.MinInt), api.ErrKind}, {bar(0, 0, math.MaxInt), api.ErrKind}, {bar(100001, 0, 0), api.ErrRange},
	} {
		want(t, "CheckBar", netting.CheckBar(row.b), row.e)
	}
}

func TestCheckNet(t *testing.T) {
	want(t, "CheckNet of nothing", netting.CheckNet(nil), api.OK)
	want(t, "CheckNet of an empty list", netting.CheckNet(list()), api.OK)
	want(t, "CheckNet", netting.CheckNet(exampleSheet()), api.OK)
	want(t, "CheckNet of neighbours", netting.CheckNet(list(bar(0, 0, -1), bar(0, 0, 1), bar(2, 0, -1), bar(-1, 1, 1))), api.OK)
	want(t, "CheckNet of the most bars", netting.CheckNet(sheet(t, knot(0, 0), 256, 8)), api.OK)
	for _, bad := range badNets() {
		want(t, "CheckNet", netting.CheckNet(bad.l), bad.e)
	}
	want(t, "CheckNet: the first bar", netting.CheckNet(list(bar(0, 0, 7))), api.ErrKind)
	want(t, "CheckNet: the first bar with an error decides", netting.CheckNet(list(bar(2, 0, 1), bar(0, 0, 1), bar(1, 0, 1))), api.ErrOrder)
	want(t, "CheckNet: the error of a bar precedes its order", netting.CheckNet(list(bar(2, 0, 1), bar(1, 0, 1))), api.ErrLattice)
	want(t, "CheckNet: the number precedes the bars", netting.CheckNet(make([]api.Bar, 5000)), api.ErrMany)
}

func TestEnds(t *testing.T) {
	for _, row := range []struct {
		b    api.Bar
		ends [2]api.Knot
		e    api.Errno
	}{
		{bar(2, 0, -1), [2]api.Knot{knot(2, 0), knot(1, 1)}, api.OK},
		{bar(-5, 3, 1), [2]api.Knot{knot(-5, 3), knot(-4, 4)}, api.OK},
		{bar(0, 0, 0), [2]api.Knot{}, api.ErrKind},
		{bar(3, 0, 1), [2]api.Knot{}, api.ErrLattice},
		{bar(100000, 2, 1), [2]api.Knot{}, api.ErrRange},
	} {
		ends, e := netting.Ends(row.b)
		want(t, "Ends", ends, row.ends)
		want(t, "Ends: error", e, row.e)
	}
}

func TestAround(t *testing.T) {
	for _, row := range []struct {
		k api.Knot
		l []api.Bar
		e api.Errno
	}{
		{knot(2, 2), list(bar(1, 1, 1), bar(3, 1, -1), bar(2, 2, -1), bar(2, 2, 1)), api.OK},
		{knot(-3, 5), list(bar(-4, 4, 1), bar(-2, 4, -1), bar(-3, 5, -1), bar(-3, 5, 1)), api.OK},
		{knot(100000, 100000), list(bar(99999, 99999, 1)), api.OK},
		{knot(-100000, 100000), list(bar(-99999, 99999, -1)), api.OK},
		{knot(100000, -100000), list(bar(100000, -100000, -1)), api.OK},
		{knot(-100000, -100000), list(bar(-100000, -100000, 1)), api.OK},
		{knot(100000, 0), list(bar(99999, -1, 1), bar(100000, 0, -1)), api.OK},
		{knot(0, 100000), list(bar(-1, 99999, 1), bar(1, 99999, -1)), api.OK},
		{knot(0, -100000), list(bar(0, -100000, -1), bar(0, -100000, 1)), api.OK},
		{knot(2, 1), nil, api.ErrLattice},
		{knot(2, 100001), nil, api.ErrRange},
		{knot(math.MinInt, math.MinInt), nil, api.ErrRange},
	} {
		l, e := netting.Around(row.k)
		want(t, "Around", l, row.l)
		want(t, "Around: error", e, row.e)
	}
}

func TestHas(t *testing.T) {
	for _, row := range []struct {
		l  []api.Bar
		b  api.Bar
		is bool
		e  api.Errno
	}{
		{exampleSheet(), bar(3, 1, 1), true, api.OK},
		{exampleSheet(), bar(0, 0, 1), true, api.OK},
		{exampleSheet(), bar(0, 0, -1), false, api.OK},
		{exampleSheet(), bar(5, 1, 1), false, api.OK},
		{exampleSheet(), bar(2, 2, 1), false, api.OK},
		{nil, bar(0, 0, 1), false, api.OK},
		{exampleSheet(), bar(0, 0, 0), false, api.ErrKind},
		{exampleSheet(), bar(1, 0, 1), false, api.ErrLattice},
		{list(bar(0, 0, 0)), bar(1, 0, 1), false, api.ErrKind},
		{list(bar(0, 0, 1), bar(0, 0, 1)), bar(0, 0, 1), false, api.ErrOrder},
	} {
		is, e := netting.Has(row.l, row.b)
		want(t, "Has", is, row.is)
		want(t, "Has: error", e, row.e)
	}
}

func TestHasEachBar(t *testing.T) {
	for _, l := range someNets(t) {
		for _, b := range sheet(t, knot(-8, -2), 10, 8) {
			is, _ := netting.Has(l, b)
			want(t, "Has", is, slices.Contains(l, b))
		}
	}
}
