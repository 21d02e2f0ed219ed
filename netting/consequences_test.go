package netting_test

import (
	"slices"
	"strings"
	"testing"

	"codend/api"
	"codend/netting"
)

func TestDegreesAddUp(t *testing.T) {
	for _, l := range someNets(t) {
		knots, _ := netting.Knots(l)
		sum := 0
		for _, k := range knots {
			n, _ := netting.Degree(l, k)
			sum += n
		}
		want(t, "degrees", sum, 2*len(l))
		legs, _ := netting.Legs(l)
		want(t, "legs", []int{legs[0], legs[0] + legs[1] + legs[2] + legs[3] + legs[4]}, []int{0, len(knots)})
	}
}

func TestSheetsHaveOnePartAndNoHoles(t *testing.T) {
	for _, at := range []api.Knot{knot(0, 0), knot(-3, 5)} {
		for columns := 1; columns <= 6; columns++ {
			for rows := 1; rows <= 6; rows++ {
				l := sheet(t, at, columns, rows)
				c, _ := netting.Count(l)
				want(t, "bars of a sheet", []int{len(l), c.Bars}, []int{2 * columns * rows, 2 * columns * rows})
				want(t, "parts and holes of a sheet", []int{c.Parts, c.Holes}, []int{1, 0})
			}
		}
	}
}

func TestPartsMakeUpTheNet(t *testing.T) {
	for _, l := range someNets(t) {
		parts, _ := netting.Parts(l)
		var all []api.Bar
		for i, part := range parts {
			common, _ := netting.Meet(all, part)
			want(t, "disjoint parts", common, []api.Bar(nil))
			all, _ = netting.Union(all, part)
			c, _ := netting.Count(part)
			want(t, "parts of a part", c.Parts, 1)
			if i > 0 && orderOfBars(parts[i-1][0], part[0]) >= 0 {
				t.Errorf("part %d does not come after the one before it", i)
			}
		}
		want(t, "all parts", all, l)
		c, _ := netting.Count(l)
		want(t, "number of parts", c.Parts, len(parts))
		want(t, "no fewer than 0 holes", c.Holes >= 0, true)
	}
}

func TestMotionsKeepCounts(t *testing.T) {
	for _, l := range someNets(t) {
		c, _ := netting.Count(l)
		legs, _ := netting.Legs(l)
		for _, moved := range allMotions(l) {
			want(t, "is a net", netting.CheckNet(moved), api.OK)
			movedCounts, _ := netting.Count(moved)
			want(t, "counts of a moved net", movedCounts, c)
			movedLegs, _ := netting.Legs(moved)
			want(t, "legs of a moved net", movedLegs, legs)
		}
	}
}

// allMotions returns a net and its mirror, each turned 0 to 3 times and shifted.
func allMotions(l []api.Bar) [][]api.Bar {
	var moved [][]api.Bar
	mirror, _ := netting.Mirror(l)
	for _, net := range [][]api.Bar{l, mirror} {
		for quarters := range 4 {
			turned, _ := netting.Turn(net, quarters)
			shifted, _ := netting.Shift(turned, knot(31-quarters, -17+quarters))
			moved = append(moved, turned, shifted)
		}
	}
	return moved
}

func TestMotionsLeadBack(t *testing.T) {
	for _, l := range someNets(t) {
		once, _ := netting.Mirror(l)
		twice, _ := netting.Mirror(once)
		want(t, "two mirrors", twice, l)
		turned := l
		for range 4 {
			turned, _ = netting.Turn(turned, 1)
		}
		want(t, "four quarter turns", turned, l)
		there, _ := netting.Shift(l, knot(5, -9))
		back, _ := netting.Shift(there, knot(-5, 9))
		want(t, "there and back", back, l)
	}
}

func TestCanonicalFormIsOfAllMotions(t *testing.T) {
	for _, l := range someNets(t) {
		form, _ := netting.Canonical(l)
		for _, moved := range append(allMotions(l), form) {
			other, e := netting.Canonical(moved)
			want(t, "Canonical of a moved net", other, form)
			want(t, "Canonical of a moved net: error", e, api.OK)
		}
	}
}

func TestPrintedNetsAreParsed(t *testing.T) {
	for _, l := range someNets(t) {
		s, _ := netting.Print(l)
		parsed, index, e := netting.Parse(s)
		want(t, "Parse of what is printed", parsed, l)
		want(t, "Parse of what is printed: index and error", []int{index, int(e)}, []int{0, 0})
	}
}

func TestSetsFitTogether(t *testing.T) {
	nets := someNets(t)
	for i, a := range nets {
		b := nets[(5*i+2)%len(nets)]
		union, _ := netting.Union(a, b)
		common, _ := netting.Meet(a, b)
		rest, _ := netting.Minus(a, b)
		want(t, "bars of both", len(union)+len(common), len(a)+len(b))
		whole, _ := netting.Union(rest, common)
		want(t, "the rest and the common bars", whole, a)
	}
}

// callsOfNets calls each function of one net, and returns the nets in its results.
func callsOfNets(l []api.Bar) map[string]func() [][]api.Bar {
	one := func(l []api.Bar, _ api.Errno) [][]api.Bar { return [][]api.Bar{l} }
	return map[string]func() [][]api.Bar{
		"Union":             func() [][]api.Bar { return one(netting.Union(l, nil)) },
		"Union of the same": func() [][]api.Bar { return one(netting.Union(l, l)) },
		"Union behind none": func() [][]api.Bar { return one(netting.Union(nil, l)) },
		"Minus":             func() [][]api.Bar { return one(netting.Minus(l, nil)) },
		"Meet":              func() [][]api.Bar { return one(netting.Meet(l, l)) },
		"Shift":             func() [][]api.Bar { return one(netting.Shift(l, knot(0, 0))) },
		"Mirror":            func() [][]api.Bar { return one(netting.Mirror(l)) },
		"Turn":              func() [][]api.Bar { return one(netting.Turn(l, 0)) },
		"Canonical":         func() [][]api.Bar { return one(netting.Canonical(l)) },
		"Parts":             func() [][]api.Bar { parts, _ := netting.Parts(l); return parts },
	}
}

func TestResultsShareNoMemory(t *testing.T) {
	for _, l := range someNets(t) {
		for name, call := range callsOfNets(l) {
			before := slices.Clone(l)
			results := call()
			want(t, name+": the argument stays", l, before)
			for i := range results {
				for j := range results[i] {
					results[i][j] = bar(9, 9, 9)
				}
				results[i] = append(results[i], bar(8, 8, 8))
			}
			want(t, name+": the argument is not shared", l, before)
		}
	}
}

func TestPartsShareNoMemory(t *testing.T) {
	l := list(bar(0, 0, 1), bar(4, 0, 1), bar(1, 1, 1))
	parts, _ := netting.Parts(l)
	_ = append(parts[0], bar(8, 8, 8))
	want(t, "the other part", parts[1], list(bar(4, 0, 1)))
}

func TestDrawSharesNoMemory(t *testing.T) {
	a, _ := netting.Draw(5, 9)
	b, _ := netting.Draw(5, 9)
	a[0] = -1
	again, _ := netting.Draw(5, 9)
	want(t, "Draw again", again, b)
}

// TestNothingPanics calls all functions with numbers and lists of any form.
func TestNothingPanics(t *testing.T) {
	lists := [][]api.Bar{nil, exampleSheet(), longNet(), make([]api.Bar, api.MaxBars+1)}
	for _, x := range extremes() {
		for _, y := range extremes() {
			k := knot(x, y)
			netting.Draw(x, y)
			netting.CheckKnot(k)
			netting.Around(k)
			netting.Sheet(k, x, y)
			netting.Sheet(knot(0, 0), x, y)
			netting.Sheet(k, 1, 1)
			netting.Degree(exampleSheet(), k)
			netting.Shift(exampleSheet(), k)
			netting.Turn(exampleSheet(), x)
			for _, side := range []int{x, y, -1, 0, 1} {
				b := bar(x, y, side)
				netting.CheckBar(b)
				netting.Ends(b)
				netting.Has(exampleSheet(), b)
				lists = append(lists, list(b))
			}
		}
	}
	for _, l := range lists {
		netting.Knots(l)
		netting.Legs(l)
		netting.Meshes(l)
		netting.Count(l)
		netting.Print(l)
		callAll(callsOfNets(l))
	}
}

func callAll(calls map[string]func() [][]api.Bar) {
	for _, call := range calls {
		call()
	}
}

func TestNoTextPanics(t *testing.T) {
	const s = "0: 0/ 2\\ 2/ 4\\\n1: 1\\ 1/ 3\\ 3/\n"
	for i := range s {
		for c := range 256 {
			changed := s[:i] + string([]byte{byte(c)}) + s[i+1:]
			netting.IsName(changed)
			l, index, e := netting.Parse(changed)
			if e == api.OK {
				printed, _ := netting.Print(l)
				want(t, "Print of what was parsed", printed, changed)
			} else if index < 0 || index >= strings.Count(changed, "\n")+1 || len(l) > 0 {
				t.Errorf("Parse %q: got %v, %d", changed, l, index)
			}
		}
	}
}
