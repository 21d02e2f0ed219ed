package panel_test

import (
	"fmt"
	"reflect"
	"slices"
	"testing"

	"codend/api"
	"codend/netting"
	"codend/panel"
)

func TestBarsAreAreaAndLetters(t *testing.T) {
	for _, p := range somePanels() {
		net, e := panel.Net(p)
		want(t, "Net: error", e, api.OK)
		area, _ := panel.Area(p)
		n, _ := panel.Letters(p)
		want(t, "twice the bars of "+p.Name, 2*len(net), area+n[1])
	}
}

func TestNetsHaveOnePartAndNoHoles(t *testing.T) {
	for _, p := range somePanels() {
		net, _ := panel.Net(p)
		c, e := netting.Count(net)
		want(t, "Count: error", e, api.OK)
		want(t, "parts and holes of "+p.Name, []int{c.Parts, c.Holes}, []int{1, 0})
	}
}

func TestNetsOfMirrorsAndTurns(t *testing.T) {
	for _, p := range somePanels() {
		net, _ := panel.Net(p)
		m, _ := panel.Mirror(p)
		got, _ := panel.Net(m)
		wanted, _ := netting.Mirror(net)
		wanted, _ = netting.Shift(wanted, knot(2*p.Width, 0))
		want(t, "net of the mirror of "+p.Name, got, wanted)
		twice, _ := panel.Mirror(m)
		want(t, "two mirrors", twice, p)
		u, e := panel.Turn(p)
		if e != api.OK {
			continue
		}
		got, _ = panel.Net(u)
		wanted, _ = netting.Turn(net, 2)
		corners, _ := panel.Corners(p)
		wanted, _ = netting.Shift(wanted, corners[3])
		want(t, "net of the turned "+p.Name, got, wanted)
		twice, _ = panel.Turn(u)
		want(t, "two turns", twice, p)
	}
}

func TestPlainPanelsAreTheSame(t *testing.T) {
	for _, p := range somePanels() {
		q, _ := panel.Plain(p)
		is, e := panel.Same(p, q)
		want(t, "Same", is, true)
		want(t, "Same: error", e, api.OK)
		again, _ := panel.Plain(q)
		want(t, "plain form of the plain form", again, q)
	}
}

func TestPartsMakeUpThePanel(t *testing.T) {
	count := 0
	for _, p := range somePanels() {
		net, _ := panel.Net(p)
		for row := 1; row < heightOf(p); row++ {
			parts, e := panel.Cut(p, row)
			if e != api.OK {
				continue
			}
			count++
			lower, _ := panel.Net(parts[0])
			upper, _ := panel.Net(parts[1])
			corners, _ := panel.Corners(parts[0])
			upper, _ = netting.Shift(upper, corners[2])
			whole, _ := netting.Union(lower, upper)
			want(t, "bars of both parts of "+p.Name, whole, net)
			want(t, "no bar in both parts", len(lower)+len(upper), len(net))
			stacked, e := panel.Stack(parts[0], parts[1])
			want(t, "Stack of the parts: error", e, api.OK)
			is, _ := panel.Same(stacked, p)
			want(t, "the stacked parts are the panel", is, true)
		}
	}
	if count < 100 {
		t.Errorf("only %d panels were cut", count)
	}
}

func TestNetAndRestAreTheFrame(t *testing.T) {
	count := 0
	for _, p := range somePanels() {
		rest, e := panel.Rest(p)
		if e != api.OK {
			continue
		}
		count++
		net, _ := panel.Net(p)
		f, _ := panel.Around(p)
		sheet, _ := netting.Sheet(f.At, f.Columns, f.Rows)
		whole, _ := netting.Union(net, rest)
		want(t, "net and rest of "+p.Name, whole, sheet)
		want(t, "no bar in both", len(net)+len(rest), len(sheet))
	}
	if count < 100 {
		t.Errorf("only %d panels have a rest", count)
	}
}

func TestPrintedPanelsAreParsed(t *testing.T) {
	for _, l := range lists() {
		s, _ := panel.Print(l)
		got, index, e := panel.Parse(s)
		want(t, "Parse of what is printed", got, l)
		want(t, "Parse of what is printed: index and error", []int{index, int(e)}, []int{0, 0})
	}
}

// calls calls each function with a panel and a number, and returns the first of its results, and the error.
func calls(p panel.Panel, n int) map[string]func() (any, api.Errno) {
	type result = func() (any, api.Errno)
	return map[string]result{
		"CheckPanel":    func() (any, api.Errno) { return 0, panel.CheckPanel(p) },
		"Height":        func() (any, api.Errno) { r, e := panel.Height(p); return r, e },
		"Outline":       func() (any, api.Errno) { r, e := panel.Outline(p, false); return r, e },
		"right Outline": func() (any, api.Errno) { r, e := panel.Outline(p, true); return r, e },
		"Corners":       func() (any, api.Errno) { r, e := panel.Corners(p); return r, e },
		"Strips":        func() (any, api.Errno) { r, e := panel.Strips(p); return r, e },
		"Net":           func() (any, api.Errno) { r, e := panel.Net(p); return r, e },
		"Rows":          func() (any, api.Errno) { r, e := panel.Rows(p); return r, e },
		"Area":          func() (any, api.Errno) { r, e := panel.Area(p); return r, e },
		"Letters":       func() (any, api.Errno) { r, e := panel.Letters(p); return r, e },
		"Plain":         func() (any, api.Errno) { r, e := panel.Plain(p); return r, e },
		"Same":          func() (any, api.Errno) { r, e := panel.Same(p, p); return r, e },
		"Mirror":        func() (any, api.Errno) { r, e := panel.Mirror(p); return r, e },
		"Turn":          func() (any, api.Errno) { r, e := panel.Turn(p); return r, e },
		"Stack":         func() (any, api.Errno) { r, e := panel.Stack(p, p); return r, e },
		"Cut":           func() (any, api.Errno) { r, e := panel.Cut(p, n); return r, e },
		"Widen":         func() (any, api.Errno) { r, e := panel.Widen(p, n); return r, e },
		"Around":        func() (any, api.Errno) { r, e := panel.Around(p); return r, e },
		"Rest":          func() (any, api.Errno) { r, e := panel.Rest(p); return r, e },
		"Print":         func() (any, api.Errno) { r, e := panel.Print([]panel.Panel{p}); return r, e },
	}
}

// TestNothingBesideAnError calls everything with extreme numbers: nothing panics, and an error comes alone.
func TestNothingBesideAnError(t *testing.T) {
	for _, n := range extremes() {
		for _, p := range []panel.Panel{
			wing(), {}, {Name: "a", Width: n},
			plainOf(n, edges(in("N", 1)), edges(in("N", 1))),
			plainOf(1, edges(in("N", n)), edges(in("N", n))),
			plainOf(128, edges(in(letters("B", 64), n)), edges(out(letters("B", 64), n))),
			plainOf(128, edges(in("N", 1)), edges(in("N", 1), out(letters("T", 64), n))),
		} {
			for name, call := range calls(p, n) {
				if r, e := call(); e != api.OK && !isZero(r) {
					t.Errorf("%s of %v: %v beside the error %d", name, p, r, e)
				}
			}
		}
	}
}

// isZero reports whether a result is its zero value; an empty list is one, too.
func isZero(r any) bool {
	v := reflect.ValueOf(r)
	return v.IsZero() || v.Kind() == reflect.Slice && v.Len() == 0
}

// roomy returns a copy of edges with other ones behind them in the same memory.
func roomy(l []panel.Edge) []panel.Edge {
	return append(slices.Clone(l), out("X", 7), out("Y", 8))[:len(l)]
}

// TestArgumentsAreNotChanged holds the arguments, and what lies behind their lists, against what they were.
func TestArgumentsAreNotChanged(t *testing.T) {
	side := roomy(edges(in("BB", 1), out("BB", 1), in("N", 2)))
	p := plainOf(6, side, side)
	for name, call := range calls(p, 4) {
		first, e := call()
		want(t, name+": error", e, api.OK)
		want(t, name+": the argument", side[:5], edges(in("BB", 1), out("BB", 1), in("N", 2), out("X", 7), out("Y", 8)))
		second, _ := call()
		want(t, name+": the same again", second, first)
	}
}

// TestResultsShareNoMemory overwrites the lists of a result; neither the argument, nor the other lists, nor later results change.
func TestResultsShareNoMemory(t *testing.T) {
	side := edges(in("BB", 1), out("BB", 1), in("N", 2))
	p := plainOf(6, side, side)
	text := textOf(p)
	for name, call := range map[string]func() []panel.Panel{
		"Plain":  func() []panel.Panel { q, _ := panel.Plain(p); return []panel.Panel{q} },
		"Mirror": func() []panel.Panel { q, _ := panel.Mirror(p); return []panel.Panel{q} },
		"Turn":   func() []panel.Panel { q, _ := panel.Turn(p); return []panel.Panel{q} },
		"Stack":  func() []panel.Panel { q, _ := panel.Stack(p, p); return []panel.Panel{q} },
		"Widen":  func() []panel.Panel { q, _ := panel.Widen(p, 1); return []panel.Panel{q} },
		"Cut":    func() []panel.Panel { q, _ := panel.Cut(p, 4); return q[:] },
		"Parse":  func() []panel.Panel { l, _, _ := panel.Parse(text); return l },
	} {
		wanted := fmt.Sprint(call())
		l := call()
		want(t, name, fmt.Sprint(l), wanted)
		for i := range l {
			for j := range 2 {
				before := fmt.Sprint(l)
				own := []*[]panel.Edge{&l[i].Left, &l[i].Right}[j]
				kept := slices.Clone(*own)
				for at := range *own {
					(*own)[at] = out("Z", 9)
				}
				*own = kept
				want(t, name+": the other lists", fmt.Sprint(l), before)
			}
		}
		want(t, name+": the argument", side, edges(in("BB", 1), out("BB", 1), in("N", 2)))
		want(t, name+": a later result", fmt.Sprint(call()), wanted)
	}
}
