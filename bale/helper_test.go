package bale_test

import (
	"math"
	"reflect"
	"slices"
	"strings"
	"testing"

	"codend/api"
	"codend/bale"
	"codend/panel"
)

// want reports a result that is not the expected one; empty lists are equal.
func want(t *testing.T, what string, got, wanted any) {
	t.Helper()
	g, w := reflect.ValueOf(got), reflect.ValueOf(wanted)
	if g.Kind() == reflect.Slice && g.Type() == w.Type() && g.Len() == 0 && w.Len() == 0 {
		return
	}
	if !reflect.DeepEqual(got, wanted) {
		t.Errorf("%s: got %v, want %v", what, got, wanted)
	}
}

func bar(x, y, side int) api.Bar {
	return api.Bar{X: x, Y: y, Side: side}
}

func out(word string, times int) panel.Edge {
	return panel.Edge{Word: word, Times: times, Out: true}
}

func in(word string, times int) panel.Edge {
	return panel.Edge{Word: word, Times: times}
}

func edges(l ...panel.Edge) []panel.Edge {
	return l
}

func named(name string, width int, left, right []panel.Edge) panel.Panel {
	return panel.Panel{Name: name, Width: width, Left: left, Right: right}
}

// box returns a panel with straight sides, twice as high as the points say.
func box(name string, width, points int) panel.Panel {
	return named(name, width, edges(in("N", points)), edges(in("N", points)))
}

func list(l ...panel.Panel) []panel.Panel {
	return l
}

// wing and door are W and D of the chapter's examples.
func wing() panel.Panel {
	return named("wing", 2, edges(in("N", 1)), edges(out("BB", 1)))
}

func door() panel.Panel {
	return named("door", 3, edges(in("BB", 1)), edges(in("N", 1)))
}

func examples() []panel.Panel {
	return list(wing(), door())
}

// flag leads far to the right in its upper two strips.
func flag(name string) panel.Panel {
	return named(name, 1, edges(in("N", 2)), edges(in("N", 1), out("T", 5), in("N", 1)))
}

// hook has a wide upper end: turned it can stand below a flag.
func hook(name string) panel.Panel {
	return named(name, 5, edges(in("N", 1)), edges(in("N", 1), out("T", 3)))
}

// wedge has a right side that a turned wedge follows.
func wedge(name string) panel.Panel {
	return named(name, 1, edges(in("N", 1)), edges(out("BTTTTB", 1)))
}

// eaves reaches further in its lowest and its highest row than its bars do.
func eaves(name string) panel.Panel {
	return named(name, 1, edges(out("T", 1), in("T", 1), in("N", 1)), edges(in("N", 1), out("T", 2), in("T", 2)))
}

// right leads to the right in its one strip, left leads to the left.
func right(name string) panel.Panel {
	return named(name, 1, edges(in("B", 1)), edges(out("B", 1)))
}

func left(name string) panel.Panel {
	return named(name, 1, edges(out("B", 1)), edges(in("B", 1)))
}

func up(piece, at int) bale.Place {
	return bale.Place{Piece: piece, At: at}
}

func down(piece, at int) bale.Place {
	return bale.Place{Piece: piece, Turned: true, At: at}
}

func places(l ...bale.Place) []bale.Place {
	return l
}

func sized(rows, length int) bale.Bale {
	return bale.Bale{Name: "b", Rows: rows, Length: length}
}

// lines is the places of both outlines of a piece as it lies, and those of them at the lower and the upper end of each strip.
type lines struct {
	places [2][]api.Knot
	strips [2][][2]int
}

// linesOf goes along both sides letter by letter; turned they are exchanged, and all places are turned around the upper right corner.
func linesOf(p panel.Panel, turned bool) lines {
	l, r := follow(0, p.Left, false), follow(2*p.Width, p.Right, true)
	if turned {
		corner := r[len(r)-1]
		l, r = around(r, corner), around(l, corner)
	}
	return lines{[2][]api.Knot{l, r}, [2][][2]int{stripsOf(l), stripsOf(r)}}
}

func follow(x int, l []panel.Edge, right bool) []api.Knot {
	at := api.Knot{X: x}
	all := []api.Knot{at}
	for _, e := range l {
		way := -1
		if right == e.Out {
			way = 1
		}
		for _, letter := range strings.Repeat(e.Word, e.Times) {
			by := map[rune]api.Knot{'N': {Y: 2}, 'B': {X: way, Y: 1}, 'T': {X: 2 * way}}[letter]
			at = api.Knot{X: at.X + by.X, Y: at.Y + by.Y}
			all = append(all, at)
		}
	}
	return all
}

func around(l []api.Knot, corner api.Knot) []api.Knot {
	var all []api.Knot
	for _, k := range slices.Backward(l) {
		all = append(all, api.Knot{X: corner.X - k.X, Y: corner.Y - k.Y})
	}
	return all
}

func stripsOf(l []api.Knot) [][2]int {
	var pairs [][2]int
	for i, k := range l[1:] {
		for range k.Y - l[i].Y {
			pairs = append(pairs, [2]int{l[i].X, k.X})
		}
	}
	return pairs
}

func (l lines) height() int {
	return len(l.strips[0])
}

// xs returns the X of all places of both outlines, ascending.
func (l lines) xs() []int {
	var all []int
	for _, k := range slices.Concat(l.places[0], l.places[1]) {
		all = append(all, k.X)
	}
	slices.Sort(all)
	return all
}

func (l lines) least() int {
	return l.xs()[0]
}

func (l lines) greatest() int {
	all := l.xs()
	return all[len(all)-1]
}

// isApart reports whether a piece at a number is apart on the right of another one at 0.
func isApart(other, l lines, at int) bool {
	for y := range min(other.height(), l.height()) {
		edge, next := other.strips[1][y], l.strips[0][y]
		next[0], next[1] = next[0]+at, next[1]+at
		if edge[0] > next[0] || edge[1] > next[1] {
			return false
		}
		if edge == next && edge[0] != edge[1] {
			return false
		}
	}
	return true
}

// linesAt returns the lines of each place of a plan, still without its number.
func linesAt(l []panel.Panel, plan []bale.Place) []lines {
	var all []lines
	for _, p := range plan {
		all = append(all, linesOf(l[p.Piece], p.Turned))
	}
	return all
}

// stands reports whether the last place of a plan has no X below 0, and is apart on the right of those before it.
func stands(all []lines, plan []bale.Place) bool {
	last := len(plan) - 1
	if plan[last].At+all[last].least() < 0 {
		return false
	}
	for i, other := range plan[:last] {
		if !isApart(all[i], all[last], plan[last].At-other.At) {
			return false
		}
	}
	return true
}

// laidOf tries all even numbers for each piece of an order.
func laidOf(l []panel.Panel, order []bale.Place) []bale.Place {
	plan, all := slices.Clone(order), linesAt(l, order)
	for i := range plan {
		for plan[i].At = -200; !stands(all, plan[:i+1]); plan[i].At += 2 {
		}
	}
	return plan
}

// lengthOf tries all lengths.
func lengthOf(l []panel.Panel, plan []bale.Place) int {
	n := 0
	for i, line := range linesAt(l, plan) {
		for plan[i].At+line.greatest() > 2*n {
			n++
		}
	}
	return n
}

// errorIn returns the error of a plan of pieces in a bale.
func errorIn(b bale.Bale, l []panel.Panel, plan []bale.Place) api.Errno {
	all := linesAt(l, plan)
	for i, p := range plan {
		if all[i].height() > b.Rows || p.At+all[i].least() < 0 || p.At+all[i].greatest() > 2*b.Length {
			return api.ErrOutside
		}
		if !stands(all, plan[:i+1]) {
			return api.ErrCross
		}
	}
	return api.OK
}

// netAt tests all bars that might be in the net of a place.
func netAt(l []panel.Panel, p bale.Place) []api.Bar {
	line := linesOf(l[p.Piece], p.Turned)
	var net []api.Bar
	for y := range line.height() {
		edge, next := line.strips[0][y], line.strips[1][y]
		for x := line.least(); x <= line.greatest(); x++ {
			for _, side := range []int{-1, 1} {
				if (x+y)%2 == 0 && edge[0] <= x && x <= next[0] && edge[1] <= x+side && x+side <= next[1] {
					net = append(net, bar(p.At+x, y, side))
				}
			}
		}
	}
	return net
}

// ordersOf returns the orders of all of so many pieces, each turned or not, in no certain sequence.
func ordersOf(count int) [][]bale.Place {
	all := [][]bale.Place{nil}
	for piece := range count {
		var longer [][]bale.Place
		for _, order := range all {
			for i := range len(order) + 1 {
				longer = append(longer, slices.Insert(slices.Clone(order), i, up(piece, 0)), slices.Insert(slices.Clone(order), i, down(piece, 0)))
			}
		}
		all = longer
	}
	return all
}

// dice are numbers without an order, the same ones in each run.
type dice struct{ x uint32 }

func (d *dice) below(n int) int {
	d.x = d.x*1664525 + 1013904223
	return int(d.x>>8) % n
}

func (d *dice) side(height int) []panel.Edge {
	l := edges(panel.Edge{Word: "T", Times: 1 + d.below(4), Out: d.below(3) == 0})[:d.below(2)]
	for y := 0; y < height; {
		e := panel.Edge{Word: string("NBTBT"[d.below(5)]), Times: 1, Out: d.below(2) == 1}
		if e.Word == "N" && y == height-1 {
			e.Word = "B"
		}
		y += map[string]int{"N": 2, "B": 1}[e.Word]
		l = append(l, e)
	}
	return l
}

// piece returns a panel that can be a piece.
func (d *dice) piece(name string) panel.Panel {
	for {
		height := 1 + d.below(6)
		p := named(name, 1+d.below(9), d.side(height), d.side(height))
		if bale.CheckPieces(list(p)) == api.OK {
			return p
		}
	}
}

// lots returns lists of up to so many pieces.
func lots(count, most int) [][]panel.Panel {
	d := &dice{7}
	var all [][]panel.Panel
	for range count {
		var l []panel.Panel
		for i := range d.below(most + 1) {
			l = append(l, d.piece("p"+string(rune('a'+i))))
		}
		all = append(all, l)
	}
	return all
}

// someOrder returns an order of some of so many pieces.
func (d *dice) someOrder(count int) []bale.Place {
	var order []bale.Place
	for piece := range count {
		if d.below(5) > 0 {
			order = slices.Insert(order, d.below(len(order)+1), bale.Place{Piece: piece, Turned: d.below(2) == 1})
		}
	}
	return order
}

// somePlan returns the plan for an order, or one with numbers that may be greater, or one with a last number that is less.
func (d *dice) somePlan(l []panel.Panel) []bale.Place {
	plan := laidOf(l, d.someOrder(len(l)))
	change := d.below(3)
	for i := range plan {
		if change == 1 {
			plan[i].At += 2 * d.below(3) * i
		}
	}
	if change == 2 && len(plan) > 0 {
		plan[len(plan)-1].At -= 2
	}
	return plan
}

type badBale struct {
	b bale.Bale
	e api.Errno
}

// badBales returns bales with an error, or with several ones, of which the first one counts.
func badBales() []badBale {
	var l []badBale
	for _, name := range []string{"", "9", "_a", "a b", "a-b", "\u00e9", "a\n", strings.Repeat("a", 25)} {
		l = append(l, badBale{bale.Bale{Name: name, Rows: 2, Length: 9}, api.ErrName}, badBale{bale.Bale{Name: name}, api.ErrName})
	}
	for _, n := range extremes() {
		if n < 1 || n > 256 {
			l = append(l, badBale{sized(n, 9), api.ErrRange}, badBale{sized(n, n), api.ErrRange})
		}
		if n < 1 || n > 2000 {
			l = append(l, badBale{sized(2, n), api.ErrRange})
		}
	}
	return l
}

type badPieces struct {
	l []panel.Panel
	e api.Errno
}

// badPieceLists returns lists of panels with an error; where a panel has several, the first one in the chapter's order is its error.
func badPieceLists() []badPieces {
	wide := named("wide", 128, edges(in("N", 1)), edges(out("BB", 1)))
	wideAndMany := named("wide", 128, edges(in("N", 9)), edges(in("N", 8), out("BB", 1)))
	many := box("many", 128, 9)
	crossed := named("wing", 1, edges(in("B", 2)), edges(in("B", 2)))
	return []badPieces{
		{list(panel.Panel{}), api.ErrName},
		{list(wing(), panel.Panel{}), api.ErrName},
		{list(box("a", 0, 1)), api.ErrRange},
		{list(box("a", 129, 1)), api.ErrRange},
		{list(named("a", 1, edges(in("", 1)), nil)), api.ErrEmpty},
		{list(named("a", 1, edges(in("N", 1)), edges(in("B", 1)))), api.ErrShape},
		{list(crossed), api.ErrCross},
		{list(wing(), crossed), api.ErrCross}, // before the name that is there twice
		{list(wing(), door(), wing()), api.ErrTwice},
		{list(many, many), api.ErrMany},
		{list(box("many", 1, 1), many), api.ErrTwice},
		{list(box("wide", 1, 1), wide), api.ErrTwice},
		{list(wide), api.ErrRange},
		{list(wideAndMany), api.ErrRange},
		{list(many), api.ErrMany},
		{list(wing(), many, panel.Panel{}), api.ErrMany},
		{list(wide, wide), api.ErrRange},
		{make([]panel.Panel, 17), api.ErrMany},
		{slices.Repeat(examples(), 9), api.ErrMany},
		{slices.Repeat(examples(), 8), api.ErrTwice},
	}
}

type badPlan struct {
	plan []bale.Place
	e    api.Errno
}

// badPlans returns places of two pieces with an error, or with several ones, of which the first one counts.
func badPlans() []badPlan {
	l := []badPlan{
		{places(up(2, 0)), api.ErrUnknown},
		{places(down(-1, 1)), api.ErrUnknown},
		{places(up(0, 0), up(2, 100001)), api.ErrUnknown},
		{places(up(0, 0), up(0, 0)), api.ErrTwice},
		{places(up(0, 0), down(0, 8)), api.ErrTwice},
		{places(up(1, 0), up(0, 6), up(1, 1)), api.ErrTwice},
		{places(up(1, 0), up(1, 100001)), api.ErrTwice},
		{places(up(0, 100002)), api.ErrRange},
		{places(up(0, 100001)), api.ErrRange},
		{places(up(0, -100001)), api.ErrRange},
		{places(up(0, -100002)), api.ErrRange},
		{places(up(0, 1)), api.ErrLattice},
		{places(down(1, -99999)), api.ErrLattice},
		{places(up(0, 0), up(1, 7)), api.ErrLattice},
		{places(up(0, 1), up(9, 0)), api.ErrLattice},
		{make([]bale.Place, 17), api.ErrMany},
		{slices.Repeat(places(up(2, 1)), 17), api.ErrMany},
		{make([]bale.Place, 16), api.ErrTwice},
	}
	for _, n := range extremes() {
		if n < 0 || n > 1 {
			l = append(l, badPlan{places(up(n, n)), api.ErrUnknown})
		}
		if n < -100000 || n > 100000 {
			l = append(l, badPlan{places(up(1, 0), down(0, n)), api.ErrRange})
		}
	}
	return l
}

// extremes are numbers at and beyond all limits.
func extremes() []int {
	return []int{math.MinInt, math.MinInt + 1, -1 << 32, -100002, -100001, -100000, -3, -2, -1, 0, 1, 2, 3, 16, 17, 256, 257, 2000, 2001, 100000, 100001, 100002, 1 << 31, 1 << 62, math.MaxInt - 1, math.MaxInt}
}

// inBale calls each function of a bale, pieces and places, and returns the first of its results, and the error.
func inBale(b bale.Bale, l []panel.Panel, plan []bale.Place) map[string]func() (any, api.Errno) {
	return map[string]func() (any, api.Errno){
		"CheckPlan": func() (any, api.Errno) { return nil, bale.CheckPlan(b, l, plan) },
		"Scraps":    func() (any, api.Errno) { r, e := bale.Scraps(b, l, plan); return r, e },
		"Waste":     func() (any, api.Errno) { r, e := bale.Waste(b, l, plan); return r, e },
		"Yield":     func() (any, api.Errno) { r, e := bale.Yield(b, l, plan); return r, e },
		"Left":      func() (any, api.Errno) { r, e := bale.Left(b, l, plan); return r, e },
	}
}

// ofPlaces calls likewise each function of pieces and places.
func ofPlaces(l []panel.Panel, plan []bale.Place) map[string]func() (any, api.Errno) {
	return map[string]func() (any, api.Errno){
		"Lay":    func() (any, api.Errno) { r, e := bale.Lay(l, plan); return r, e },
		"Length": func() (any, api.Errno) { r, e := bale.Length(l, plan); return r, e },
		"Nets":   func() (any, api.Errno) { r, e := bale.Nets(l, plan); return r, e },
		"Print":  func() (any, api.Errno) { r, e := bale.Print(l, plan); return r, e },
	}
}

// ofPieces calls likewise each function of a bale, or of a stock of it, and pieces.
func ofPieces(b bale.Bale, l []panel.Panel) map[string]func() (any, api.Errno) {
	return map[string]func() (any, api.Errno){
		"Best":      func() (any, api.Errno) { r, n, e := bale.Best(b, l); return zeroPair(r, n), e },
		"Bound":     func() (any, api.Errno) { r, e := bale.Bound(b, l); return r, e },
		"Pack":      func() (any, api.Errno) { r, e := bale.Pack([]bale.Bale{b}, l); return r, e },
		"CheckPack": func() (any, api.Errno) { return nil, bale.CheckPack([]bale.Bale{b}, l, make([][]bale.Place, 2)) },
	}
}

// pair is a plan and its length.
type pair struct {
	plan   []bale.Place
	length int
}

// zeroPair returns a plan and its length; an empty plan is nil in it.
func zeroPair(plan []bale.Place, length int) pair {
	return pair{append([]bale.Place(nil), plan...), length}
}

// isZero reports whether a result is its zero value; an empty list is one, too.
func isZero(r any) bool {
	v := reflect.ValueOf(r)
	return !v.IsValid() || v.IsZero() || v.Kind() == reflect.Slice && v.Len() == 0
}

// wantError calls functions that have to return an error, and nothing beside it.
func wantError(t *testing.T, calls map[string]func() (any, api.Errno), wanted api.Errno) {
	t.Helper()
	for name, call := range calls {
		r, e := call()
		want(t, name+": error", e, wanted)
		if !isZero(r) {
			t.Errorf("%s: %v beside the error %d", name, r, e)
		}
	}
}
