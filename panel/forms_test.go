package panel_test

import (
	"slices"
	"testing"

	"codend/api"
	"codend/panel"
)

// plainSide groups letters as the chapter says.
func plainSide(cuts []cut) []panel.Edge {
	var l []panel.Edge
	var ways []bool // of the letters B and T of the last group
	for i, c := range cuts {
		turns := c.letter != 'N' && len(ways) > 0 && ways[len(ways)-1] != c.out
		if i == 0 || len(l[len(l)-1].Word) == 64 || turns {
			l = append(l, panel.Edge{Times: 1})
			ways = nil
		}
		if c.letter != 'N' {
			ways = append(ways, c.out)
		}
		l[len(l)-1].Word += string(c.letter)
		l[len(l)-1].Out = len(ways) > 0 && ways[0]
	}
	return l
}

// level returns a side of a height that leads across by at most one bar, in plain form.
func level(height int) []panel.Edge {
	return plainSide(cutsOf(edges(out(letters("B", height%2)+letters("N", height/2), 1))))
}

// crowd returns a panel whose right side has 62 bars, in and out by turns, then a run outwards, and then perhaps another edge. In plain form the side has 64 groups if the run has from 128 to 191 letters.
func crowd(run panel.Edge, more ...panel.Edge) panel.Panel {
	right := append(slices.Repeat(edges(in("B", 1), out("B", 1)), 31), run)
	right = append(right, more...)
	return plainOf(3, level(heightOf(plainOf(3, right, nil))), right)
}

func TestPlain(t *testing.T) {
	for _, row := range []struct {
		l, plain []panel.Edge
	}{
		{edges(in("N", 3)), edges(in("NNN", 1))},
		{edges(out("N", 3)), edges(in("NNN", 1))},
		{edges(out("NB", 2)), edges(out("NBNB", 1))},
		{edges(in("N", 1), out("B", 1)), edges(out("NB", 1))},
		{edges(out("N", 1), in("B", 1)), edges(in("NB", 1))},
		{edges(out("B", 1), in("N", 1), out("T", 1)), edges(out("BNT", 1))},
		{edges(out("B", 1), in("NB", 1)), edges(out("BN", 1), in("B", 1))},
		{edges(in("B", 1), out("NNT", 1), in("NB", 1)), edges(in("BNN", 1), out("TN", 1), in("B", 1))},
		{edges(in("T", 1), out("T", 1), in("T", 2), out("B", 1)), edges(in("T", 1), out("T", 1), in("TT", 1), out("B", 1))},
		{edges(out("N", 64)), edges(in(letters("N", 64), 1))},
		{edges(out("B", 64), out("N", 1)), edges(out(letters("B", 64), 1), in("N", 1))},
		{edges(out("B", 64), out("N", 1), in("B", 1)), edges(out(letters("B", 64), 1), in("NB", 1))},
		{edges(out("B", 63), in("T", 1), out("N", 1)), edges(out(letters("B", 63), 1), in("TN", 1))},
		{edges(out("B", 1), in("N", 63), out("TB", 1)), edges(out("B"+letters("N", 63), 1), out("TB", 1))},
		{edges(in("N", 40), out("B", 24), in("B", 1)), edges(out(letters("N", 40)+letters("B", 24), 1), in("B", 1))},
		{edges(out(letters("B", 64), 2), out("BB", 1)), edges(out(letters("B", 64), 1), out(letters("B", 64), 1), out("BB", 1))},
	} {
		even := level(heightOf(plainOf(1, row.l, nil)))
		for _, pair := range [][2]panel.Panel{
			{plainOf(100, row.l, even), plainOf(100, row.plain, even)},
			{plainOf(100, even, row.l), plainOf(100, even, row.plain)},
			{plainOf(100, row.l, row.l), plainOf(100, row.plain, row.plain)},
		} {
			got, e := panel.Plain(pair[0])
			want(t, "Plain", got, pair[1])
			want(t, "Plain: error", e, api.OK)
		}
	}
	for _, p := range somePanels() {
		got, e := panel.Plain(p)
		want(t, "Plain of "+p.Name, got, named(p.Name, p.Width, plainSide(cutsOf(p.Left)), plainSide(cutsOf(p.Right))))
		want(t, "Plain: error", e, api.OK)
	}
}

func TestPlainOfManyGroups(t *testing.T) {
	for _, row := range []struct {
		run panel.Edge
		e   api.Errno
	}{
		{out(letters("T", 64), 2), api.OK},
		{out(letters("T", 38), 5), api.OK},
		{out(letters("T", 64), 3), api.ErrMany},
		{out(letters("T", 50), 4), api.ErrMany},
		{out(letters("B", 38), 5), api.OK},
		{out(letters("B", 64), 3), api.ErrMany},
	} {
		p := crowd(row.run)
		for _, p := range []panel.Panel{p, plainOf(3, p.Right, p.Left)} {
			want(t, "CheckPanel", panel.CheckPanel(p), api.OK)
			got, e := panel.Plain(p)
			want(t, "Plain: error", e, row.e)
			wanted := panel.Panel{}
			if row.e == api.OK {
				wanted = plainOf(3, plainSide(cutsOf(p.Left)), plainSide(cutsOf(p.Right)))
			}
			want(t, "Plain", got, wanted)
		}
	}
}

func TestSame(t *testing.T) {
	n := edges(in("N", 2))
	for _, row := range []struct {
		a, b panel.Panel
		is   bool
	}{
		{wing(), wing(), true},
		{wing(), named("other", 2, edges(out("N", 1)), edges(out("B", 2))), true},
		{wing(), named("wing", 3, edges(in("N", 1)), edges(out("BB", 1))), false},
		{wing(), named("wing", 2, edges(out("BB", 1)), edges(in("N", 1))), false},
		{plainOf(3, n, n), plainOf(3, edges(out("NN", 1)), edges(in("N", 1), out("N", 1))), true},
		{plainOf(3, n, n), plainOf(4, n, n), false},
		{plainOf(3, n, n), plainOf(3, n, edges(in("N", 1), out("BB", 1))), false},
		{plainOf(3, n, n), plainOf(3, n, edges(in("N", 1), out("B", 1), in("B", 1))), false},
		{plainOf(3, n, n), plainOf(3, edges(in("B", 1), out("B", 1), in("N", 1)), n), false},
		{plainOf(3, n, n), plainOf(3, edges(out("T", 1), in("T", 1), in("N", 2)), n), false},
		{plainOf(3, n, n), plainOf(3, n, edges(in("N", 2), out("T", 1))), false},
		{plainOf(3, n, n), plainOf(3, edges(in("N", 2), in("T", 1)), n), false},
		{plainOf(3, edges(out("BB", 1)), edges(out("B", 2))), plainOf(3, edges(out("B", 1), out("B", 1)), edges(out("BB", 1))), true},
		{plainOf(3, edges(out("BB", 2)), n), plainOf(3, edges(in("B", 1), out("B", 3)), n), false},
	} {
		for _, pair := range [][2]panel.Panel{{row.a, row.b}, {row.b, row.a}} {
			is, e := panel.Same(pair[0], pair[1])
			want(t, "Same", is, row.is)
			want(t, "Same: error", e, api.OK)
		}
	}
	l := somePanels()
	for i, a := range l {
		for _, b := range []panel.Panel{a, l[(i+1)%len(l)], l[(11*i+5)%len(l)], plainOf(a.Width, plainSide(cutsOf(a.Left)), plainSide(cutsOf(a.Right)))} {
			is, e := panel.Same(a, b)
			want(t, "Same", is, slices.Equal(leftOf(a), leftOf(b)) && slices.Equal(rightOf(a), rightOf(b)))
			want(t, "Same: error", e, api.OK)
		}
	}
}

func TestMirror(t *testing.T) {
	m, e := panel.Mirror(wing())
	want(t, "Mirror", m, named("wing", 2, edges(out("BB", 1)), edges(in("N", 1))))
	want(t, "Mirror: error", e, api.OK)
	for _, p := range somePanels() {
		m, e := panel.Mirror(p)
		want(t, "Mirror of "+p.Name, m, named(p.Name, p.Width, p.Right, p.Left))
		want(t, "Mirror: error", e, api.OK)
	}
}

func TestTurn(t *testing.T) {
	for _, row := range []struct {
		p, turned panel.Panel
	}{
		{wing(), named("wing", 3, edges(in("BB", 1)), edges(out("N", 1)))},
		{named("a", 9, edges(out("NBT", 2), in("BBN", 1)), edges(in("TTBN", 1), out("N", 3), in("B", 1))), named("a", 8, edges(out("B", 1), in("N", 3), out("NBTT", 1)), edges(out("NBB", 1), in("TBN", 2)))},
	} {
		q, e := panel.Turn(row.p)
		want(t, "Turn", q, row.turned)
		want(t, "Turn: error", e, api.OK)
	}
	for _, p := range somePanels() {
		l, r := leftOf(p), rightOf(p)
		width := (r[len(r)-1].X - l[len(l)-1].X) / 2
		q, e := panel.Turn(p)
		if width > 128 {
			want(t, "Turn", q, panel.Panel{})
			want(t, "Turn: error", e, api.ErrRange)
			continue
		}
		want(t, "Turn of "+p.Name, q, named(p.Name, width, upsideDown(p.Right), upsideDown(p.Left)))
		want(t, "Turn: error", e, api.OK)
		want(t, "left outline upside down", leftOf(q), opposite(r, r[len(r)-1]))
		want(t, "right outline upside down", rightOf(q), opposite(l, r[len(r)-1]))
	}
}

func upsideDown(l []panel.Edge) []panel.Edge {
	var turned []panel.Edge
	for _, e := range l {
		word := ""
		for _, letter := range e.Word {
			word = string(letter) + word
		}
		turned = append([]panel.Edge{{Word: word, Times: e.Times, Out: !e.Out}}, turned...)
	}
	return turned
}

// opposite returns places in the opposite order, as they lie around a corner when all is turned by a half.
func opposite(places []api.Knot, corner api.Knot) []api.Knot {
	var l []api.Knot
	for _, k := range places {
		l = append([]api.Knot{knot(corner.X-k.X, corner.Y-k.Y)}, l...)
	}
	return l
}

func TestTurnOfWidePanels(t *testing.T) {
	for _, row := range []struct {
		p panel.Panel
		e api.Errno
	}{
		{plainOf(127, edges(in("N", 1)), edges(out("BB", 1))), api.OK},
		{plainOf(128, edges(in("N", 1)), edges(out("BB", 1))), api.ErrRange},
		{plainOf(128, edges(in("N", 1)), edges(in("BB", 1))), api.OK},
		{plainOf(1, edges(out("T", 64), in("N", 1)), edges(in("N", 1), out("T", 63))), api.OK},
		{plainOf(1, edges(out("T", 64), in("N", 1)), edges(in("N", 1), out("T", 64))), api.ErrRange},
	} {
		q, e := panel.Turn(row.p)
		want(t, "Turn: error", e, row.e)
		want(t, "Turn: nothing beside an error", q.Name == "", row.e != api.OK)
	}
}

func TestStack(t *testing.T) {
	door := named("door", 3, edges(in("BB", 1)), edges(in("N", 1)))
	s, e := panel.Stack(wing(), door)
	want(t, "Stack", s, named("wing", 2, edges(in("N", 1), in("BB", 1)), edges(out("BB", 1), in("N", 1))))
	want(t, "Stack: error", e, api.OK)
	s, e = panel.Stack(door, wing())
	want(t, "Stack the other way", s, named("door", 3, edges(in("BB", 1), in("N", 1)), edges(in("N", 1), out("BB", 1))))
	want(t, "Stack the other way: error", e, api.OK)
	l := somePanels()
	count := 0
	for i, a := range l {
		b := l[(5*i+3)%len(l)]
		c, _ := panel.Corners(a)
		by := (c[3].X-c[2].X)/2 - b.Width
		b, e := panel.Widen(b, by)
		if e != api.OK {
			continue
		}
		whole := named(a.Name, a.Width, append(slices.Clone(a.Left), b.Left...), append(slices.Clone(a.Right), b.Right...))
		e = errorOf(whole)
		if e != api.OK {
			whole = panel.Panel{}
		}
		got, gotError := panel.Stack(a, b)
		want(t, "Stack", got, whole)
		want(t, "Stack: error", gotError, e)
		count++
	}
	if count < 50 {
		t.Errorf("only %d panels were stacked", count)
	}
}

func TestStackErrors(t *testing.T) {
	n := edges(in("N", 1))
	box := func(width, height int) panel.Panel {
		return plainOf(width, edges(in("NN", height)), edges(in("NN", height)))
	}
	of := func(times int) []panel.Edge {
		return slices.Repeat(n, times)
	}
	for _, row := range []struct {
		a, b panel.Panel
		e    api.Errno
	}{
		{wing(), wing(), api.ErrSeam},
		{box(2, 1), box(3, 1), api.ErrSeam},
		{box(3, 1), box(2, 1), api.ErrSeam},
		{box(2, 64), box(3, 64), api.ErrSeam},
		{box(2, 1), plainOf(2, n, edges(out("T", 1), in("N", 1))), api.OK},
		{plainOf(2, n, edges(in("N", 1), out("T", 1))), box(2, 1), api.ErrSeam},
		{plainOf(2, n, edges(in("N", 1), out("T", 1))), box(3, 1), api.OK},
		{box(2, 32), box(2, 32), api.OK},
		{box(2, 64), box(2, 1), api.ErrLarge},
		{plainOf(2, of(32), n[:1]), box(2, 1), api.ErrShape},
		{plainOf(2, of(32), of(32)), plainOf(2, of(32), of(32)), api.OK},
		{plainOf(2, of(33), of(33)), plainOf(2, of(32), of(32)), api.ErrMany},
		{plainOf(2, of(33), edges(in("N", 33))), plainOf(2, of(32), edges(in("N", 32))), api.ErrMany},
		{plainOf(2, edges(in("N", 33)), of(33)), plainOf(2, edges(in("N", 32)), of(32)), api.ErrMany},
		{plainOf(1, n, edges(out(letters("T", 64), 4), in(letters("T", 64), 3), in("N", 1))), plainOf(65, n, edges(out("T", 62), in("N", 1))), api.OK},
		{plainOf(1, n, edges(out(letters("T", 64), 4), in(letters("T", 64), 3), in("N", 1))), plainOf(65, n, edges(out("T", 63), in("N", 1))), api.ErrMany},
		// the tongues of both meet in the row between
		{plainOf(6, edges(in("N", 1), in("T", 2), out("T", 2)), n), plainOf(6, n, edges(in("T", 4), out("T", 4), in("N", 1))), api.ErrCross},
		{plainOf(6, edges(in("N", 1), in("T", 2), out("T", 2)), n), plainOf(6, n, edges(in("T", 3), out("T", 3), in("N", 1))), api.OK},
	} {
		s, e := panel.Stack(row.a, row.b)
		want(t, "Stack: error", e, row.e)
		want(t, "Stack: nothing beside an error", s.Name == "", row.e != api.OK)
	}
}

func TestWiden(t *testing.T) {
	for _, row := range []struct {
		p  panel.Panel
		by int
		e  api.Errno
	}{
		{wing(), 0, api.OK},
		{wing(), 1, api.OK},
		{wing(), 126, api.OK},
		{wing(), 127, api.ErrRange},
		{wing(), 128, api.ErrRange},
		{wing(), -1, api.OK},
		{wing(), -2, api.ErrRange},
		{wing(), -128, api.ErrRange},
		{plainOf(128, edges(in("N", 1)), edges(in("N", 1))), -127, api.OK},
		{plainOf(128, edges(in("N", 1)), edges(in("N", 1))), -128, api.ErrRange},
		{plainOf(5, edges(in("B", 2)), edges(in("B", 2))), -2, api.OK},
		{plainOf(5, edges(in("B", 2)), edges(in("B", 2))), -3, api.ErrCross},
	} {
		q, e := panel.Widen(row.p, row.by)
		wanted := panel.Panel{}
		if row.e == api.OK {
			wanted = named(row.p.Name, row.p.Width+row.by, row.p.Left, row.p.Right)
		}
		want(t, "Widen", q, wanted)
		want(t, "Widen: error", e, row.e)
	}
	for _, by := range extremes() {
		if by >= -128 && by <= 128 {
			continue
		}
		q, e := panel.Widen(wing(), by)
		want(t, "Widen", q, panel.Panel{})
		want(t, "Widen: error", e, api.ErrRange)
	}
}

func TestFormsOfBadPanels(t *testing.T) {
	for _, bad := range badPanels() {
		for name, call := range map[string]func() (panel.Panel, api.Errno){
			"Plain":                    func() (panel.Panel, api.Errno) { return panel.Plain(bad.p) },
			"Mirror":                   func() (panel.Panel, api.Errno) { return panel.Mirror(bad.p) },
			"Turn":                     func() (panel.Panel, api.Errno) { return panel.Turn(bad.p) },
			"Stack":                    func() (panel.Panel, api.Errno) { return panel.Stack(bad.p, wing()) },
			"Stack on a panel":         func() (panel.Panel, api.Errno) { return panel.Stack(wing(), bad.p) },
			"Stack before another one": func() (panel.Panel, api.Errno) { return panel.Stack(bad.p, panel.Panel{Name: "9"}) },
			"Widen":                    func() (panel.Panel, api.Errno) { return panel.Widen(bad.p, 1) },
			"Widen by too much":        func() (panel.Panel, api.Errno) { return panel.Widen(bad.p, 1000) },
		} {
			p, e := call()
			want(t, name, p, panel.Panel{})
			want(t, name+": error", e, bad.e)
		}
		for _, other := range []panel.Panel{wing(), {}} {
			is, e := panel.Same(bad.p, other)
			want(t, "Same", is, false)
			want(t, "Same: error", e, bad.e)
		}
		is, e := panel.Same(wing(), bad.p)
		want(t, "Same as a bad panel", is, false)
		want(t, "Same as a bad panel: error", e, bad.e)
	}
}
