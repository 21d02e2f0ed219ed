package panel_test

import (
	"fmt"
	"testing"

	"codend/api"
	"codend/panel"
)

func TestCheckEdge(t *testing.T) {
	for _, e := range edges(in("N", 1), out("B", 64), in("T", 2), out("NBT", 64), in(letters("N", 64), 64), out(letters("B", 63)+"T", 1)) {
		want(t, "CheckEdge "+e.Word, panel.CheckEdge(e), api.OK)
	}
	for _, bad := range badEdges() {
		want(t, "CheckEdge "+bad.edge.Word, panel.CheckEdge(bad.edge), bad.e)
	}
}

func TestCheckPanel(t *testing.T) {
	n := edges(in("N", 1))
	for _, p := range []panel.Panel{
		wing(),
		named("Z_9", 1, n, n),
		named("a23456789012345678901234", 128, n, n),
		plainOf(1, edges(in(letters("N", 64), 2)), edges(in("N", 64), in("NN", 32))),
		plainOf(1, edges(out(letters("B", 64), 4)), edges(out(letters("BB", 32), 4))),
		plainOf(1, edges(out(letters("T", 64), 7), out(letters("T", 63), 1), in("N", 1)), n),
		plainOf(1, n, edges(in("N", 1), out(letters("T", 64), 7), out(letters("T", 63), 1))),
		plainOf(1, make64(in("B", 1), out("B", 1)), make64(out("B", 1), in("B", 1))),
		plainOf(2, edges(in("BN", 1)), edges(in("NB", 1))),
		plainOf(2, edges(in("N", 1)), edges(in("B", 1), out("B", 1))),
		plainOf(2, edges(in("B", 2)), edges(in("N", 1))),
		plainOf(2, edges(in("T", 1), out("T", 1), in("N", 1)), n),
		plainOf(2, edges(in("NT", 1)), n),
		plainOf(1, edges(in("N", 1), out("T", 1), in("T", 1)), n),
	} {
		want(t, "CheckPanel", panel.CheckPanel(p), api.OK)
	}
	for i, bad := range badPanels() {
		want(t, fmt.Sprintf("CheckPanel of the bad panel %d", i), panel.CheckPanel(bad.p), bad.e)
	}
}

// make64 returns 64 edges, two by turns.
func make64(a, b panel.Edge) []panel.Edge {
	var l []panel.Edge
	for range 32 {
		l = append(l, a, b)
	}
	return l
}

// TestCheckPanelByDefinition holds the error of each panel against the reach of its outlines in each row.
func TestCheckPanelByDefinition(t *testing.T) {
	count := map[api.Errno]int{}
	for _, p := range candidates() {
		for by := range 4 {
			p := p
			p.Width = max(1, p.Width-by)
			e := errorOf(p)
			want(t, "CheckPanel", panel.CheckPanel(p), e)
			count[e]++
		}
	}
	for _, e := range []api.Errno{api.OK, api.ErrShape, api.ErrCross} {
		if count[e] < 100 {
			t.Errorf("only %d panels with the error %d", count[e], e)
		}
	}
}

// TestFarthestReach shows that no outline of valid sides is beyond the greatest reach.
func TestFarthestReach(t *testing.T) {
	p := plainOf(128, edges(in("N", 1)), edges(out(letters("T", 64), 7), out(letters("T", 63), 1), out("N", 1)))
	c, e := panel.Corners(p)
	want(t, "Corners", c, [4]api.Knot{knot(0, 0), knot(256, 0), knot(0, 2), knot(256+1022, 2)})
	want(t, "Corners: error", e, api.OK)
	want(t, "reach", c[3].X < panel.MaxReach, true)
}

func TestOutline(t *testing.T) {
	for _, row := range []struct {
		p           panel.Panel
		left, right []api.Knot
	}{
		{wing(), []api.Knot{knot(0, 0), knot(0, 2)}, []api.Knot{knot(4, 0), knot(5, 1), knot(6, 2)}},
		{plainOf(3, edges(out("TB", 1), in("TB", 1)), edges(out("BT", 1), in("BT", 1))),
			[]api.Knot{knot(0, 0), knot(-2, 0), knot(-3, 1), knot(-1, 1), knot(0, 2)},
			[]api.Knot{knot(6, 0), knot(7, 1), knot(9, 1), knot(8, 2), knot(6, 2)}},
		{plainOf(2, edges(out("N", 2)), edges(in("N", 1), out("N", 1))), []api.Knot{knot(0, 0), knot(0, 2), knot(0, 4)}, []api.Knot{knot(4, 0), knot(4, 2), knot(4, 4)}},
		{plainOf(4, edges(in("BN", 2)), edges(in("NB", 2))),
			[]api.Knot{knot(0, 0), knot(1, 1), knot(1, 3), knot(2, 4), knot(2, 6)},
			[]api.Knot{knot(8, 0), knot(8, 2), knot(7, 3), knot(7, 5), knot(6, 6)}},
	} {
		wantOutlines(t, row.p, row.left, row.right)
	}
	for _, p := range somePanels() {
		wantOutlines(t, p, leftOf(p), rightOf(p))
	}
}

func wantOutlines(t *testing.T, p panel.Panel, left, right []api.Knot) {
	t.Helper()
	l, e := panel.Outline(p, false)
	want(t, "Outline of the left side", l, left)
	want(t, "Outline of the left side: error", e, api.OK)
	r, e := panel.Outline(p, true)
	want(t, "Outline of the right side", r, right)
	want(t, "Outline of the right side: error", e, api.OK)
	h, e := panel.Height(p)
	want(t, "Height", []int{h, h}, []int{left[len(left)-1].Y, right[len(right)-1].Y})
	want(t, "Height: error", e, api.OK)
	c, e := panel.Corners(p)
	want(t, "Corners", c, [4]api.Knot{left[0], right[0], left[len(left)-1], right[len(right)-1]})
	want(t, "Corners: error", e, api.OK)
}

func TestStrips(t *testing.T) {
	for _, row := range []struct {
		p panel.Panel
		l []panel.Strip
	}{
		{wing(), []panel.Strip{strip(0, 4, 0, 5), strip(0, 5, 0, 6)}},
		{plainOf(3, edges(in("BTB", 1)), edges(in("N", 1))), []panel.Strip{strip(0, 6, 1, 6), strip(3, 6, 4, 6)}},
		{plainOf(2, edges(out("TBN", 1)), edges(out("NBT", 1))), []panel.Strip{strip(-2, 4, -3, 4), strip(-3, 4, -3, 4), strip(-3, 4, -3, 5)}},
		{plainOf(2, edges(in("T", 1), out("TT", 1), out("B", 1)), edges(out("T", 2), in("B", 1))), []panel.Strip{strip(-2, 8, -3, 7)}},
	} {
		l, e := panel.Strips(row.p)
		want(t, "Strips", l, row.l)
		want(t, "Strips: error", e, api.OK)
	}
	for _, p := range somePanels() {
		l, e := panel.Strips(p)
		want(t, "Strips: error", e, api.OK)
		want(t, "number of strips", len(l), heightOf(p))
		for y, s := range l {
			left, right := pairOf(leftOf(p), y), pairOf(rightOf(p), y)
			want(t, "Strips", s, strip(left[0], right[0], left[1], right[1]))
		}
	}
}

func strip(left, right, upLeft, upRight int) panel.Strip {
	return panel.Strip{Low: [2]int{left, right}, Up: [2]int{upLeft, upRight}}
}

func TestArea(t *testing.T) {
	for _, row := range []struct {
		p    panel.Panel
		area int
	}{
		{wing(), 20},
		{plainOf(1, edges(in("N", 1)), edges(in("N", 1))), 8},
		{plainOf(128, edges(in("N", 64), in("NN", 32)), edges(in("NNNN", 32))), 2 * 256 * 256},
		{plainOf(3, edges(in("BTB", 1)), edges(in("N", 1))), 6 + 5 + 3 + 2},
		{plainOf(1, edges(out(letters("B", 64), 4)), edges(out(letters("B", 64), 4))), 2 * 256 * 258},
	} {
		area, e := panel.Area(row.p)
		want(t, "Area", area, row.area)
		want(t, "Area: error", e, api.OK)
	}
	for _, p := range somePanels() {
		sum := 0
		for y := range heightOf(p) {
			l, r := pairOf(leftOf(p), y), pairOf(rightOf(p), y)
			sum += r[0] - l[0] + r[1] - l[1]
		}
		area, e := panel.Area(p)
		want(t, "Area", area, sum)
		want(t, "Area: error", e, api.OK)
	}
}

func TestLetters(t *testing.T) {
	n, e := panel.Letters(wing())
	want(t, "Letters", n, [3]int{1, 2, 0})
	want(t, "Letters: error", e, api.OK)
	n, _ = panel.Letters(plainOf(30, edges(in("NBTTT", 3), out("B", 2)), edges(out("NNBBBB", 1), in("NT", 1), in("B", 1))))
	want(t, "Letters", n, [3]int{3 + 3, 5 + 5, 9 + 1})
	for _, p := range somePanels() {
		count := map[rune]int{}
		for _, c := range append(cutsOf(p.Left), cutsOf(p.Right)...) {
			count[c.letter]++
		}
		n, e := panel.Letters(p)
		want(t, "Letters", n, [3]int{count['N'], count['B'], count['T']})
		want(t, "Letters: error", e, api.OK)
	}
}

func TestOutlineFunctionsOfBadPanels(t *testing.T) {
	for _, bad := range badPanels() {
		h, e := panel.Height(bad.p)
		want(t, "Height", h, 0)
		want(t, "Height: error", e, bad.e)
		for _, right := range []bool{false, true} {
			l, e := panel.Outline(bad.p, right)
			want(t, "Outline", l, []api.Knot(nil))
			want(t, "Outline: error", e, bad.e)
		}
		c, e := panel.Corners(bad.p)
		want(t, "Corners", c, [4]api.Knot{})
		want(t, "Corners: error", e, bad.e)
		s, e := panel.Strips(bad.p)
		want(t, "Strips", s, []panel.Strip(nil))
		want(t, "Strips: error", e, bad.e)
		a, e := panel.Area(bad.p)
		want(t, "Area", a, 0)
		want(t, "Area: error", e, bad.e)
		n, e := panel.Letters(bad.p)
		want(t, "Letters", n, [3]int{})
		want(t, "Letters: error", e, bad.e)
	}
}
