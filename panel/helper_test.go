package panel_test

import (
	"math"
	"reflect"
	"slices"
	"strings"
	"testing"

	"codend/api"
	"codend/panel"
)

// want reports a result that is not the expected one; empty lists are equal.
func want(t *testing.T, what string, got, wanted any) {
	t.Helper()
	g, w := reflect.ValueOf(got), reflect.ValueOf(wanted)
	if g.Kind() == reflect.Slice && g.Type() == w.Type() && g.Len() == 0 && w.Len() == 0 {
		return
	}
	if !reflect.DeepEqual(got, wanted) {
		t.Errorf("%s: got %v, want %v", what, got, wanted)
	}
}

func knot(x, y int) api.Knot {
	return api.Knot{X: x, Y: y}
}

func bar(x, y, side int) api.Bar {
	return api.Bar{X: x, Y: y, Side: side}
}

func out(word string, times int) panel.Edge {
	return panel.Edge{Word: word, Times: times, Out: true}
}

func in(word string, times int) panel.Edge {
	return panel.Edge{Word: word, Times: times}
}

func edges(l ...panel.Edge) []panel.Edge {
	return l
}

func named(name string, width int, left, right []panel.Edge) panel.Panel {
	return panel.Panel{Name: name, Width: width, Left: left, Right: right}
}

func plainOf(width int, left, right []panel.Edge) panel.Panel {
	return named("p", width, left, right)
}

// wing is W of the chapter's examples.
func wing() panel.Panel {
	return named("wing", 2, edges(in("N", 1)), edges(out("BB", 1)))
}

// letters returns a word of so many times a letter.
func letters(letter string, n int) string {
	return strings.Repeat(letter, n)
}

type cut struct {
	letter rune
	out    bool
}

// cutsOf returns the letters of a side one by one.
func cutsOf(l []panel.Edge) []cut {
	var cuts []cut
	for _, e := range l {
		for _, letter := range strings.Repeat(e.Word, e.Times) {
			cuts = append(cuts, cut{letter, e.Out})
		}
	}
	return cuts
}

// follow goes along a side letter by letter.
func follow(x int, l []panel.Edge, right bool) []api.Knot {
	at := knot(x, 0)
	places := []api.Knot{at}
	for _, c := range cutsOf(l) {
		toRight := right && c.out || !right && !c.out
		switch {
		case c.letter == 'N':
			at = knot(at.X, at.Y+2)
		case c.letter == 'B' && toRight:
			at = knot(at.X+1, at.Y+1)
		case c.letter == 'B':
			at = knot(at.X-1, at.Y+1)
		case toRight:
			at = knot(at.X+2, at.Y)
		default:
			at = knot(at.X-2, at.Y)
		}
		places = append(places, at)
	}
	return places
}

func leftOf(p panel.Panel) []api.Knot {
	return follow(0, p.Left, false)
}

func rightOf(p panel.Panel) []api.Knot {
	return follow(2*p.Width, p.Right, true)
}

func heightOf(p panel.Panel) int {
	places := leftOf(p)
	return places[len(places)-1].Y
}

// reachOf returns all X of an outline in a row.
func reachOf(places []api.Knot, row int) []int {
	var reach []int
	for i, k := range places {
		if k.Y == row {
			reach = append(reach, k.X)
		}
		if i > 0 && places[i-1].Y == row-1 && k.Y == row+1 {
			reach = append(reach, k.X)
		}
	}
	return reach
}

// pairOf returns the lower and the upper X of an outline in the strip above a row.
func pairOf(places []api.Knot, row int) [2]int {
	for i, k := range places[1:] {
		before := places[i]
		if before.Y == row && k.Y == row+1 || before.Y == row && k.Y == row+2 || before.Y == row-1 && k.Y == row+1 {
			return [2]int{before.X, k.X}
		}
	}
	return [2]int{}
}

// netOf tests all bars that might be in a panel.
func netOf(p panel.Panel) []api.Bar {
	var net []api.Bar
	for y := range heightOf(p) {
		l, r := pairOf(leftOf(p), y), pairOf(rightOf(p), y)
		for x := min(l[0], l[1]) - 2; x <= max(r[0], r[1])+2; x++ {
			for _, side := range []int{-1, 1} {
				if (x+y)%2 == 0 && x >= l[0] && x <= r[0] && x+side >= l[1] && x+side <= r[1] {
					net = append(net, bar(x, y, side))
				}
			}
		}
	}
	return net
}

// errorOf is the error of a panel whose name, width and edges have none.
func errorOf(p panel.Panel) api.Errno {
	for _, side := range [][]panel.Edge{p.Left, p.Right} {
		if len(cutsOf(side)) > panel.MaxSteps {
			return api.ErrMany
		}
	}
	l, r := leftOf(p), rightOf(p)
	height := l[len(l)-1].Y
	switch {
	case height != r[len(r)-1].Y:
		return api.ErrShape
	case height == 0:
		return api.ErrEmpty
	case height > panel.MaxHeight:
		return api.ErrLarge
	}
	for y := 0; y <= height; y++ {
		if slices.Min(reachOf(r, y)) < slices.Max(reachOf(l, y))+2 {
			return api.ErrCross
		}
	}
	return api.OK
}

// dice are numbers without an order, the same ones in each run.
type dice struct{ x uint32 }

func (d *dice) below(n int) int {
	d.x = d.x*1664525 + 1013904223
	return int(d.x>>8) % n
}

func (d *dice) edge(most int) panel.Edge {
	alphabet := []string{"N", "B", "NB", "NBB", "NBT", "TB", "BBBNNT"}[d.below(7)]
	word := ""
	for range 1 + d.below(most) {
		word += string(alphabet[d.below(len(alphabet))])
	}
	return panel.Edge{Word: word, Times: 1 + d.below(3), Out: d.below(2) == 1}
}

// candidates returns panels of many forms; some of them cross, some have sides of different heights, some are empty.
func candidates() []panel.Panel {
	d := &dice{1}
	var l []panel.Panel
	for i := range 1500 {
		p := panel.Panel{Name: "a" + letters("x", i%24), Width: 1 + d.below(14)}
		for range 1 + d.below(3) {
			p.Left = append(p.Left, d.edge(6))
			p.Right = append(p.Right, d.edge(6))
		}
		if i%8 > 0 {
			p = levelled(d, p)
		}
		l = append(l, p)
	}
	return l
}

// levelled adds to the lower side what it lacks.
func levelled(d *dice, p panel.Panel) panel.Panel {
	r := rightOf(p)
	lack := heightOf(p) - r[len(r)-1].Y
	more := func(lack int) []panel.Edge {
		l := edges()
		for ; lack > 0; lack-- {
			e := panel.Edge{Word: "B", Times: 1, Out: d.below(2) == 1}
			if lack > 1 && d.below(2) == 1 {
				e.Word = "N"
				lack--
			}
			l = append(l, e)
		}
		return l
	}
	p.Left, p.Right = append(p.Left, more(-lack)...), append(p.Right, more(lack)...)
	return p
}

// somePanels returns panels of many forms.
func somePanels() []panel.Panel {
	l := []panel.Panel{
		wing(),
		named("box", 1, edges(in("N", 1)), edges(in("N", 1))),
		named("slant", 1, edges(in("B", 1)), edges(out("B", 1))),
		named("fan", 3, edges(out("TBT", 2)), edges(out("TTB", 2))),
		named("steps", 4, edges(in("T", 1), out("T", 2), in("BN", 1), out("TBT", 1)), edges(in("T", 1), out("TNB", 1), out("B", 1), in("TT", 1))),
		named("loops", 5, edges(out("T", 3), in("T", 3), in("NN", 2)), edges(in("N", 2), out("T", 3), in("T", 4), in("N", 2))),
		named("high", 8, edges(in("N", 64), in("N", 64)), edges(out("NNNN", 32))),
		named("wide", 128, edges(out("B", 8)), edges(out("B", 8))),
		named("far", 1, edges(out(letters("T", 63), 8), in("B", 1)), edges(out(letters("T", 64), 7), out("TB", 1))),
	}
	for _, p := range candidates() {
		if errorOf(p) == api.OK {
			l = append(l, p)
		}
	}
	return l
}

type badPanel struct {
	p panel.Panel
	e api.Errno
}

// badPanels returns panels with an error; where a panel has several, the first one in the chapter's order is its error.
func badPanels() []badPanel {
	n, nothing := edges(in("N", 1)), edges()
	var l []badPanel
	add := func(e api.Errno, panels ...panel.Panel) {
		for _, p := range panels {
			l = append(l, badPanel{p, e})
		}
	}
	for _, name := range []string{"", "9", "_a", "a b", "a-b", "\u00e9", "a\n", letters("a", 25)} {
		add(api.ErrName, named(name, 2, n, n), named(name, 0, nothing, nothing), named(name, 2, edges(panel.Edge{}), n))
	}
	for _, width := range []int{0, -1, 129, 1 << 62, math.MaxInt, math.MinInt} {
		add(api.ErrRange, plainOf(width, n, n), plainOf(width, nothing, nothing), plainOf(width, edges(panel.Edge{}), n), plainOf(width, n, edges(in("N", 2))))
	}
	many, long := make([]panel.Edge, 65), edges(in(letters("T", 64), 8), in("N", 1))
	add(api.ErrMany, plainOf(1, many, n), plainOf(1, n, many), plainOf(1, many, edges(panel.Edge{})), plainOf(1, slices.Repeat(n, 65), n), plainOf(1, nothing, many))
	add(api.ErrMany, plainOf(1, long, n), plainOf(1, n, long), plainOf(1, long, edges(panel.Edge{})), plainOf(1, edges(in("N", 64), in("NNNNNNN", 64), in("N", 1)), n))
	add(api.ErrMany, plainOf(1, n, slices.Repeat(edges(in(letters("B", 64), 64)), 64)), plainOf(1, nothing, long))
	for _, bad := range badEdges() {
		add(bad.e, plainOf(1, edges(bad.edge), n), plainOf(1, n, edges(bad.edge)), plainOf(1, edges(bad.edge, in("", 0)), many), plainOf(9, edges(in("N", 1), bad.edge), n))
		add(bad.e, plainOf(1, nothing, edges(bad.edge)), plainOf(1, append(slices.Clone(long), bad.edge), n), plainOf(9, edges(in("T", 1)), edges(in("T", 1), bad.edge, in("n", 1))))
	}
	add(api.ErrShape, plainOf(1, n, nothing), plainOf(1, nothing, n), plainOf(1, n, edges(in("T", 1))), plainOf(1, n, edges(out("B", 1))), plainOf(2, edges(in("N", 2)), edges(in("BBB", 1))))
	add(api.ErrShape, plainOf(1, edges(in(letters("N", 64), 2)), edges(in(letters("N", 64), 2), out("B", 1))), plainOf(1, edges(in(letters("N", 64), 3)), edges(in(letters("N", 64), 2), in("N", 1))))
	add(api.ErrEmpty, plainOf(1, nothing, nothing), plainOf(128, edges(in("T", 1)), nothing), plainOf(1, nothing, edges(in("T", 2))), plainOf(1, edges(in("T", 3)), edges(in("T", 3))))
	high := edges(in(letters("N", 64), 2))
	add(api.ErrLarge, plainOf(1, append(slices.Clone(high), out("B", 1)), append(slices.Clone(high), out("B", 1))), plainOf(1, append(slices.Clone(high), in("BN", 1)), append(slices.Clone(high), in("BN", 1))))
	add(api.ErrLarge, plainOf(100, edges(in(letters("N", 64), 8)), edges(in(letters("N", 64), 8))), plainOf(1, edges(in(letters("B", 64), 8)), edges(in(letters("B", 64), 8))))
	for _, p := range crossed() {
		add(api.ErrCross, p)
	}
	return l
}

// crossed returns panels whose outlines come too near to each other in one row.
func crossed() []panel.Panel {
	return []panel.Panel{
		plainOf(1, edges(in("N", 1)), edges(in("B", 1), out("B", 1))), // at the row 1, in the middle of N
		plainOf(1, edges(in("B", 1), out("B", 1)), edges(in("N", 1))), // likewise on the other side
		plainOf(1, edges(in("B", 1), out("B", 1)), edges(in("B", 1), out("B", 1))),
		plainOf(1, edges(in("BN", 1)), edges(in("NB", 1))),                        // 1 at the row 1, in the middle of N on one side only
		plainOf(1, edges(in("T", 1), out("T", 1), in("N", 1)), edges(in("N", 1))), // there and back in the row 0
		plainOf(1, edges(in("N", 1)), edges(in("T", 1), out("TN", 1))),
		plainOf(1, edges(in("N", 1), in("T", 1), out("T", 1)), edges(in("N", 1))), // there and back in the highest row
		plainOf(1, edges(in("NT", 1)), edges(in("N", 1))),
		plainOf(1, edges(in("N", 1)), edges(in("NT", 1))),
		plainOf(3, edges(in("B", 2), in("T", 1), out("TB", 1)), edges(in("B", 2), out("B", 1))),
		plainOf(2, edges(in("TTTTN", 1)), edges(in("N", 1))), // exchanged
	}
}

type badEdge struct {
	edge panel.Edge
	e    api.Errno
}

// badEdges returns edges with an error, or with several ones, of which the first one counts.
func badEdges() []badEdge {
	l := []badEdge{{panel.Edge{}, api.ErrEmpty}, {out("", 1), api.ErrEmpty}}
	for _, word := range []string{letters("N", 65), letters("x", 65), letters("NBT", 1000), letters("\u00e9", 33)} {
		l = append(l, badEdge{in(word, 1), api.ErrLong}, badEdge{in(word, 0), api.ErrLong})
	}
	for _, word := range []string{"X", "n", "NBx", "xNB", "N B", "NB\n", " ", "1N", letters("N", 63) + "X", letters("\u00e9", 32), "N\xffB", "\xff", "\uFFFD", "\u0392", "\x00"} {
		l = append(l, badEdge{in(word, 1), api.ErrForm}, badEdge{out(word, 65), api.ErrForm})
	}
	for _, times := range []int{0, -1, 65, 1 << 32, 1 << 62, math.MaxInt, math.MinInt} {
		l = append(l, badEdge{in("N", times), api.ErrRange}, badEdge{out(letters("BT", 32), times), api.ErrRange})
	}
	return l
}

// extremes are numbers at and beyond all limits.
func extremes() []int {
	return []int{math.MinInt, math.MinInt + 1, -1 << 32, -4097, -257, -129, -128, -127, -3, -2, -1, 0, 1, 2, 3, 4, 64, 127, 128, 129, 255, 256, 257, 512, 4096, 1 << 31, 1 << 62, math.MaxInt - 1, math.MaxInt}
}
