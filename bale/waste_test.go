package bale_test

import (
	"slices"
	"testing"

	"codend/api"
	"codend/bale"
	"codend/netting"
	"codend/panel"
)

func TestScraps(t *testing.T) {
	for _, row := range []struct {
		b    bale.Bale
		l    []panel.Panel
		plan []bale.Place
		bars []api.Bar
	}{
		{sized(2, 9), examples(), places(up(0, 0), up(1, 6)), []api.Bar{bar(6, 0, -1), bar(7, 1, -1)}},
		{sized(2, 9), examples(), places(up(1, 0)), []api.Bar{bar(1, 1, -1)}},
		{sized(3, 9), list(box("a", 1, 1)), places(up(0, 0)), []api.Bar{bar(0, 2, 1), bar(2, 2, -1)}},
		{sized(1, 9), list(left("a")), places(up(0, 2)), []api.Bar{bar(0, 0, 1)}},
		{sized(1, 9), list(left("a"), right("b")), places(up(0, 2), up(1, 6)), []api.Bar{bar(0, 0, 1), bar(4, 0, 1), bar(6, 0, -1), bar(10, 0, -1)}},
		{sized(2, 9), examples(), nil, nil},
		{sized(256, 2000), examples(), nil, nil},
		{sized(16, 128), list(box("a", 128, 8)), places(up(0, 0)), nil},
	} {
		bars, e := bale.Scraps(row.b, row.l, row.plan)
		want(t, "Scraps", bars, row.bars)
		want(t, "Scraps: error", e, api.OK)
		n, _ := bale.Waste(row.b, row.l, row.plan)
		want(t, "Waste", n, len(row.bars))
	}
}

// TestScrapsLimits has plans whose sheets are as large as possible, and too large.
func TestScrapsLimits(t *testing.T) {
	l := list(box("a", 1, 1))
	for _, row := range []struct {
		b    bale.Bale
		plan []bale.Place
		e    api.Errno
	}{
		{sized(2, 256), places(up(0, 510)), api.OK},
		{sized(8, 256), places(up(0, 510)), api.OK},
		{sized(9, 256), places(up(0, 510)), api.ErrMany},
		{sized(2, 2000), places(up(0, 512)), api.ErrMany},
		{sized(2, 2000), places(up(0, 510)), api.OK}, // the length of the plan counts
		{sized(16, 128), places(up(0, 254)), api.OK},
		{sized(16, 129), places(up(0, 256)), api.ErrMany},
		{sized(256, 8), places(up(0, 14)), api.OK},
		{sized(256, 9), places(up(0, 16)), api.ErrMany},
		{sized(256, 256), places(up(0, 512)), api.ErrOutside}, // before it is too long
		{sized(1, 256), places(up(0, 512)), api.ErrOutside},
	} {
		bars, e := bale.Scraps(row.b, l, row.plan)
		want(t, "Scraps: error", e, row.e)
		if e != api.OK {
			want(t, "Scraps", bars, []api.Bar(nil))
			continue
		}
		n, _ := bale.Waste(row.b, l, row.plan)
		want(t, "Scraps: number", len(bars), n)
	}
}

// TestScrapsByDefinition takes from the sheet what is in a net.
func TestScrapsByDefinition(t *testing.T) {
	d := &dice{17}
	count := 0
	for _, l := range lots(300, 5) {
		plan := d.somePlan(l)
		b := sized(6+d.below(3), 60+d.below(100))
		bars, e := bale.Scraps(b, l, plan)
		wanted := errorIn(b, l, plan)
		want(t, "Scraps: error", e, wanted)
		if wanted != api.OK || len(plan) == 0 {
			want(t, "Scraps", bars, []api.Bar(nil))
			continue
		}
		count++
		sheet, _ := netting.Sheet(api.Knot{}, lengthOf(l, plan), b.Rows)
		for _, p := range plan {
			net := netAt(l, p)
			sheet = slices.DeleteFunc(sheet, func(x api.Bar) bool { return slices.Contains(net, x) })
		}
		want(t, "Scraps", bars, sheet)
	}
	if count < 100 {
		t.Errorf("only %d plans have scraps", count)
	}
}

func TestWaste(t *testing.T) {
	for _, row := range []struct {
		b    bale.Bale
		l    []panel.Panel
		plan []bale.Place
		n    int
	}{
		{sized(2, 9), examples(), places(up(0, 0), up(1, 6)), 2},
		{sized(2, 9), examples(), places(up(0, 0), down(1, 12)), 36 - 22},
		{sized(3, 9), examples(), places(up(0, 0), up(1, 6)), 36 - 22},
		{sized(2, 9), examples(), nil, 0},
		{sized(2, 2000), list(box("a", 1, 1)), places(up(0, 3998)), 8000 - 4}, // no limit for bars
		{sized(256, 2000), list(box("a", 1, 1)), places(up(0, 3998)), 1024000 - 4},
	} {
		n, e := bale.Waste(row.b, row.l, row.plan)
		want(t, "Waste", n, row.n)
		want(t, "Waste: error", e, api.OK)
	}
}

func TestYield(t *testing.T) {
	for _, row := range []struct {
		b    bale.Bale
		l    []panel.Panel
		plan []bale.Place
		r    api.Ratio
		e    api.Errno
	}{
		{sized(2, 9), examples(), places(up(0, 0), up(1, 6)), api.Ratio{Num: 11, Den: 12}, api.OK},
		{sized(2, 9), examples(), places(down(1, 0)), api.Ratio{Num: 11, Den: 12}, api.OK},
		{sized(16, 128), list(box("a", 128, 8)), places(up(0, 0)), api.Ratio{Num: 1, Den: 1}, api.OK},
		{sized(256, 2000), list(box("a", 1, 1)), places(up(0, 3998)), api.Ratio{Num: 1, Den: 256000}, api.OK},
		{sized(2, 9), examples(), nil, api.Ratio{}, api.ErrEmpty},
		{sized(2, 9), nil, nil, api.Ratio{}, api.ErrEmpty},
		{sized(1, 9), examples(), places(up(0, 0)), api.Ratio{}, api.ErrOutside},
		{sized(2, 9), examples(), places(up(0, 0), up(1, 4)), api.Ratio{}, api.ErrCross},
	} {
		r, e := bale.Yield(row.b, row.l, row.plan)
		want(t, "Yield", r, row.r)
		want(t, "Yield: error", e, row.e)
	}
}

func TestLeft(t *testing.T) {
	for _, row := range []struct {
		b    bale.Bale
		plan []bale.Place
		left bale.Bale
		e    api.Errno
	}{
		{bale.Bale{Name: "bought", Rows: 2, Length: 9}, places(up(0, 0), up(1, 6)), bale.Bale{Name: "bought", Rows: 2, Length: 3}, api.OK},
		{sized(2, 9), nil, sized(2, 9), api.OK},
		{sized(2, 7), places(up(0, 0), up(1, 6)), sized(2, 1), api.OK},
		{sized(2, 6), places(up(0, 0), up(1, 6)), bale.Bale{}, api.ErrOver},
		{sized(2, 3), places(up(0, 0)), bale.Bale{}, api.ErrOver},
		{sized(2, 5), places(up(0, 0), up(1, 6)), bale.Bale{}, api.ErrOutside},
		{sized(2, 9), places(up(1, 0), up(0, 4)), bale.Bale{}, api.ErrCross},
		{sized(256, 2000), places(up(0, 3000)), sized(256, 497), api.OK},
	} {
		left, e := bale.Left(row.b, examples(), row.plan)
		want(t, "Left", left, row.left)
		want(t, "Left: error", e, row.e)
	}
}

// TestWasteByDefinition compares the numbers with the bars of the nets.
func TestWasteByDefinition(t *testing.T) {
	d := &dice{19}
	for _, l := range lots(300, 5) {
		plan := d.somePlan(l)
		b := sized(6+d.below(30), 100+d.below(1900))
		if errorIn(b, l, plan) != api.OK {
			continue
		}
		used, all := 0, 2*b.Rows*lengthOf(l, plan)
		for _, p := range plan {
			used += len(netAt(l, p))
		}
		n, e := bale.Waste(b, l, plan)
		want(t, "Waste", n, all-used)
		want(t, "Waste: error", e, api.OK)
		left, e := bale.Left(b, l, plan)
		want(t, "Left", left, sized(b.Rows, b.Length-lengthOf(l, plan)))
		want(t, "Left: error", e, api.OK)
		r, e := bale.Yield(b, l, plan)
		if len(plan) == 0 {
			want(t, "Yield of nothing: error", e, api.ErrEmpty)
			continue
		}
		want(t, "Yield: quotient", r.Num*all, used*r.Den)
		want(t, "Yield: error", e, api.OK)
		for n := 2; n <= r.Num; n++ {
			if r.Num%n == 0 && r.Den%n == 0 {
				t.Errorf("Yield: %v is not in lowest terms", r)
			}
		}
	}
}
