package netting_test

import (
	"slices"
	"testing"

	"codend/api"
	"codend/netting"
)

type setFunction struct {
	name string
	call func(a, b []api.Bar) ([]api.Bar, api.Errno)
	keep func(inA, inB bool) bool
}

func setFunctions() []setFunction {
	return []setFunction{
		{"Union", netting.Union, func(inA, inB bool) bool { return inA || inB }},
		{"Minus", netting.Minus, func(inA, inB bool) bool { return inA && !inB }},
		{"Meet", netting.Meet, func(inA, inB bool) bool { return inA && inB }},
	}
}

func TestSets(t *testing.T) {
	a := list(bar(0, 0, -1), bar(0, 0, 1), bar(1, 1, 1))
	b := list(bar(-2, 0, 1), bar(0, 0, 1), bar(-1, 1, -1), bar(1, 1, 1), bar(0, 2, 1))
	for _, row := range []struct {
		name               string
		call               func(a, b []api.Bar) ([]api.Bar, api.Errno)
		both, aOnly, bOnly []api.Bar
	}{
		{"Union", netting.Union, list(bar(-2, 0, 1), bar(0, 0, -1), bar(0, 0, 1), bar(-1, 1, -1), bar(1, 1, 1), bar(0, 2, 1)), a, b},
		{"Minus", netting.Minus, list(bar(0, 0, -1)), a, nil},
		{"Meet", netting.Meet, list(bar(0, 0, 1), bar(1, 1, 1)), nil, nil},
	} {
		for _, c := range []struct{ a, b, wanted []api.Bar }{{a, b, row.both}, {a, nil, row.aOnly}, {nil, b, row.bOnly}, {nil, nil, nil}} {
			l, e := row.call(c.a, c.b)
			want(t, row.name, l, c.wanted)
			want(t, row.name+": error", e, api.OK)
		}
	}
	l, _ := netting.Minus(b, a)
	want(t, "Minus the other way", l, list(bar(-2, 0, 1), bar(-1, 1, -1), bar(0, 2, 1)))
}

// TestSetsByMembers holds the results against the members of both nets, bar by bar.
func TestSetsByMembers(t *testing.T) {
	nets := someNets(t)
	for i, a := range nets {
		b := nets[(7*i+3)%len(nets)]
		all := append(slices.Clone(a), b...)
		for _, f := range setFunctions() {
			l, e := f.call(a, b)
			want(t, f.name+": error", e, api.OK)
			want(t, f.name+": is a net", netting.CheckNet(l), api.OK)
			for _, x := range all {
				want(t, f.name, slices.Contains(l, x), f.keep(slices.Contains(a, x), slices.Contains(b, x)))
			}
			for _, x := range l {
				want(t, f.name+": only bars of both", slices.Contains(all, x), true)
			}
		}
	}
}

func TestSetsOfTheLargestNets(t *testing.T) {
	full := sheet(t, knot(0, 0), 64, 32)
	l, e := netting.Union(full[:2000], full[1000:])
	want(t, "Union of the most bars", l, full)
	want(t, "Union of the most bars: error", e, api.OK)
	for _, other := range [][]api.Bar{list(bar(0, -10, 1)), list(bar(0, 40, 1)), sheet(t, knot(0, 100), 64, 32)} {
		l, e = netting.Union(full, other)
		want(t, "Union of too many bars", l, []api.Bar(nil))
		want(t, "Union of too many bars: error", e, api.ErrMany)
		l, e = netting.Minus(full, other)
		want(t, "Minus", l, full)
		want(t, "Minus: error", e, api.OK)
		l, e = netting.Meet(full, other)
		want(t, "Meet", l, []api.Bar(nil))
		want(t, "Meet: error", e, api.OK)
	}
}

func TestSetsOfBadNets(t *testing.T) {
	for _, f := range setFunctions() {
		for _, bad := range badNets() {
			for _, row := range []struct {
				a, b []api.Bar
				e    api.Errno
			}{
				{bad.l, exampleSheet(), bad.e},
				{exampleSheet(), bad.l, bad.e},
				{bad.l, list(bar(1, 0, 1)), bad.e},
				{list(bar(1, 0, 1)), bad.l, api.ErrLattice},
			} {
				l, e := f.call(row.a, row.b)
				want(t, f.name, l, []api.Bar(nil))
				want(t, f.name+": error", e, row.e)
			}
		}
	}
}
