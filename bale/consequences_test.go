package bale_test

import (
	"fmt"
	"slices"
	"testing"

	"codend/api"
	"codend/bale"
	"codend/netting"
	"codend/panel"
)

// TestNetsAndScrapsAreTheSheet counts each bar once.
func TestNetsAndScrapsAreTheSheet(t *testing.T) {
	d := &dice{37}
	count := 0
	for _, l := range lots(400, 5) {
		plan, b := d.somePlan(l), sized(6+d.below(2), 250)
		if len(plan) == 0 || bale.CheckPlan(b, l, plan) != api.OK {
			continue
		}
		count++
		n, _ := bale.Length(l, plan)
		sheet, _ := netting.Sheet(api.Knot{}, n, b.Rows)
		nets, _ := bale.Nets(l, plan)
		whole, e := bale.Scraps(b, l, plan)
		want(t, "Scraps: error", e, api.OK)
		bars := len(whole)
		for _, net := range nets {
			bars += len(net)
			whole, _ = netting.Union(whole, net)
		}
		want(t, "nets and scraps", whole, sheet)
		want(t, "no bar is in two of them", bars, len(sheet))
	}
	if count < 100 {
		t.Errorf("only %d plans fit", count)
	}
}

func TestNoPlanIsShorterThanItsBounds(t *testing.T) {
	for _, l := range lots(100, 3) {
		b := sized(6, 250)
		bounds, _ := bale.Bound(b, l)
		best, least, e := bale.Best(b, l)
		want(t, "Best: error", e, api.OK)
		want(t, "CheckPlan of the best one", bale.CheckPlan(b, l, best), api.OK)
		if least < bounds.Bars || least < bounds.Widths {
			t.Errorf("the best plan has the length %d, below the bounds %v", least, bounds)
		}
		for _, order := range ordersOf(len(l)) {
			plan, _ := bale.Lay(l, order)
			n, _ := bale.Length(l, plan)
			want(t, "CheckPlan", bale.CheckPlan(b, l, plan), api.OK)
			if n < least {
				t.Errorf("the plan %v has the length %d, the best one %d", plan, n, least)
			}
		}
	}
}

// TestLaidPlansAreTight moves each piece of a plan by one mesh: then it does not fit behind those before it.
func TestLaidPlansAreTight(t *testing.T) {
	d := &dice{41}
	for _, l := range lots(300, 5) {
		plan, _ := bale.Lay(l, d.someOrder(len(l)))
		n, _ := bale.Length(l, plan)
		want(t, "CheckPlan", bale.CheckPlan(sized(256, 2000), l, plan), api.OK)
		if n > 0 {
			want(t, "CheckPlan in a bale of this length", bale.CheckPlan(sized(6, n), l, plan), api.OK)
		}
		if n > 1 {
			want(t, "CheckPlan in a shorter bale", bale.CheckPlan(sized(6, n-1), l, plan), api.ErrOutside)
		}
		for i := range plan {
			closer := slices.Clone(plan[:i+1])
			closer[i].At -= 2
			if bale.CheckPlan(sized(256, 2000), l, closer) == api.OK {
				t.Errorf("%v is not the least: %v fits", plan, closer)
			}
		}
	}
}

func TestPackingsAreAccepted(t *testing.T) {
	d := &dice{43}
	count := 0
	for _, l := range lots(200, 8) {
		stock := stockOf(1 + d.below(16))
		for i := range stock {
			stock[i].Rows, stock[i].Length = 5+d.below(4), 10+d.below(40)
		}
		plans, e := bale.Pack(stock, l)
		if e == api.OK {
			count++
			want(t, "CheckPack", bale.CheckPack(stock, l, plans), api.OK)
		}
	}
	if count < 100 {
		t.Errorf("only %d lists were packed", count)
	}
}

func TestPrintedPlansAreParsed(t *testing.T) {
	d := &dice{47}
	for _, l := range lots(300, 16) {
		order := d.someOrder(len(l))
		for i := range order {
			order[i].At = 2 * (d.below(100001) - 50000)
		}
		s, e := bale.Print(l, order)
		want(t, "Print: error", e, api.OK)
		plan, index, e := bale.Parse(l, s)
		want(t, "Parse of what is printed", plan, order)
		want(t, "Parse of what is printed: index and error", []int{index, int(e)}, []int{0, 0})
	}
}

// TestNothingBesideAnError calls everything with extreme numbers: nothing panics, and an error comes alone.
func TestNothingBesideAnError(t *testing.T) {
	for _, n := range extremes() {
		for _, l := range [][]panel.Panel{nil, examples(), list(box("a", n, 1)), list(box("a", 1, n)), list(left("a"), flag("b"))} {
			for _, b := range []bale.Bale{{}, sized(n, 9), sized(2, n), sized(n, n), sized(256, 2000)} {
				for _, plan := range [][]bale.Place{nil, {up(0, n)}, {down(n, 0)}, {up(0, 0), down(1, n)}, {down(1, n), up(n, n)}, {up(0, n), up(1, -n)}} {
					silent(t, inBale(b, l, plan))
					silent(t, ofPlaces(l, plan))
					silent(t, map[string]func() (any, api.Errno){
						"CheckPack": func() (any, api.Errno) { return nil, bale.CheckPack([]bale.Bale{b}, l, [][]bale.Place{plan}) },
					})
				}
				silent(t, ofPieces(b, l))
			}
		}
	}
}

// silent calls functions, and reports what they return beside an error.
func silent(t *testing.T, calls map[string]func() (any, api.Errno)) {
	t.Helper()
	for name, call := range calls {
		if r, e := call(); e != api.OK && !isZero(r) {
			t.Errorf("%s: %v beside the error %d", name, r, e)
		}
	}
}

// roomy returns a copy of a list with one more element behind it in the same memory.
func roomy[T any](l []T, more T) []T {
	return append(slices.Clone(l), more)[:len(l)]
}

// TestArgumentsAreNotChanged holds the arguments, and what lies behind their lists, against what they were.
func TestArgumentsAreNotChanged(t *testing.T) {
	l, plan, stock := roomy(examples(), flag("x")), roomy(places(up(0, 0), up(1, 6)), up(7, 7)), roomy(stockOf(2), sized(1, 1))
	for i := range l {
		l[i].Left, l[i].Right = roomy(l[i].Left, in("X", 7)), roomy(l[i].Right, in("Y", 8))
	}
	plans := roomy([][]bale.Place{plan, nil}, places(up(9, 9)))
	all := func() string {
		return fmt.Sprint(l[:3], l[0].Left[:2], l[0].Right[:2], l[1].Left[:2], l[1].Right[:2], plan[:3], stock[:3], plans[:3])
	}
	before := all()
	for range 2 {
		bale.CheckStock(stock)
		bale.CheckPieces(l)
		bale.CheckPack(stock, l, plans)
		bale.Pack(stock, l)
		bale.Parse(l, "wing up 0\ndoor up 6\n")
		bale.Gap(l[0], l[1])
		for _, calls := range []map[string]func() (any, api.Errno){inBale(sized(2, 9), l, plan), ofPlaces(l, plan), ofPieces(sized(2, 9), l)} {
			for name, call := range calls {
				one, _ := call()
				two, _ := call()
				want(t, name+" again", two, one)
				want(t, name+": the arguments", all(), before)
			}
		}
	}
	want(t, "the arguments", all(), before)
}

// TestResultsShareNoMemory overwrites a list of a result, and what lies behind it; neither the argument, nor another list of the result, nor a later result changes.
func TestResultsShareNoMemory(t *testing.T) {
	l, order := examples(), places(up(0, 0), up(1, 6))
	plan, _ := bale.Lay(l, order)
	clear(plan[:cap(plan)])
	want(t, "Lay: the order", order, places(up(0, 0), up(1, 6)))
	best, _, _ := bale.Best(sized(2, 9), l)
	clear(best[:cap(best)])
	best, _, _ = bale.Best(sized(2, 9), l)
	want(t, "Best again", best, order)
	nets, _ := bale.Nets(l, order)
	wanted := slices.Clone(nets[1])
	clear(nets[0][:cap(nets[0])])
	want(t, "Nets: the other net", nets[1], wanted)
	short := stockOf(2)
	short[0].Length, short[1].Length = 3, 3
	plans, _ := bale.Pack(short, l)
	clear(plans[0][:cap(plans[0])])
	want(t, "Pack: the other plan", plans[1], places(up(1, 0)))
}
