package braid_test

import (
	"fmt"
	"slices"
	"testing"

	"codend/api"
	"codend/braid"
	"codend/netting"
)

// pieces returns how many pieces of twine a program needs.
func pieces(t *testing.T, l []braid.Course) int {
	t.Helper()
	at, e := braid.Twines(l)
	want(t, "Twines: error", e, api.OK)
	return len(at)
}

func netOf(t *testing.T, l []braid.Course) []api.Bar {
	t.Helper()
	net, e := braid.Net(l)
	want(t, "Net: error", e, api.OK)
	return net
}

// TestCompiledProgramsMakeTheirNets with as few pieces as any directions, and not fewer than the net needs.
func TestCompiledProgramsMakeTheirNets(t *testing.T) {
	equal := 0
	nets(31, 1000, 8, func(_ *dice, net []api.Bar) {
		l, e := braid.Compile(net)
		want(t, "Compile: error", e, api.OK)
		want(t, "CheckCompiled", braid.CheckCompiled(net, l), api.OK)
		want(t, "Net", netOf(t, l), net)
		order, _ := braid.Order(l)
		want(t, "each bar is made once", inOrder(order), net)
		rows, _ := braid.Rows(net)
		n := pieces(t, l)
		for key := range 1 << len(rows) {
			other := worked(net, rows, func(i int) bool { return key>>i&1 == 0 })
			want(t, "CheckCompiled of other directions", braid.CheckCompiled(net, other), api.OK)
			if pieces(t, other) < n {
				t.Errorf("%v needs fewer pieces than %v", other, l)
			}
		}
		least, _ := braid.Ends(net)
		if n < least {
			t.Errorf("%d pieces for a net that needs %d", n, least)
		}
		if n == least {
			equal++
		}
	})
	if equal < 50 {
		t.Errorf("only %d programs with as few pieces as the net needs", equal)
	}
}

// TestAnyProgramNeedsAtLeastTheEnds has programs that do not follow rows.
func TestAnyProgramNeedsAtLeastTheEnds(t *testing.T) {
	programs(37, 2000, func(_ *dice, l []braid.Course) {
		least, e := braid.Ends(netOf(t, l))
		want(t, "Ends: error", e, api.OK)
		if n := pieces(t, l); n < least {
			t.Errorf("%d pieces for a net that needs %d", n, least)
		}
	})
}

func TestChangedProgramsMakeChangedNets(t *testing.T) {
	programs(41, 2000, func(d *dice, l []braid.Course) {
		net, n := netOf(t, l), pieces(t, l)
		mirrored, _ := braid.Mirror(l)
		mirror, _ := netting.Mirror(net)
		want(t, "the net of a mirrored program", netOf(t, mirrored), mirror)
		want(t, "the pieces of a mirrored program", pieces(t, mirrored), n)
		by := knot(d.below(9)-4, d.below(9)-4)
		by.X += (by.X + by.Y) & 1
		lifted, _ := braid.Lift(l, by.X, by.Y)
		shifted, _ := netting.Shift(net, by)
		want(t, "the net of a lifted program", netOf(t, lifted), shifted)
		want(t, "the pieces of a lifted program", pieces(t, lifted), n)
		s, _ := braid.Print(l)
		parsed, index, e := braid.Parse(s)
		want(t, "printed and parsed", parsed, l)
		want(t, "Parse: index and error", []int{index, int(e)}, []int{0, 0})
		back, _ := braid.Back(l)
		want(t, "the net of a program worked back", netOf(t, back), net)
		again, _ := braid.Back(back)
		want(t, "worked back twice", again, l)
		twice, _ := braid.Mirror(mirrored)
		want(t, "mirrored twice", twice, l)
		for i := range l {
			there, _ := braid.Order(l[i : i+1])
			other, _ := braid.Order(back[i : i+1])
			slices.Reverse(other)
			want(t, "the bars of a course worked back", other, there)
		}
	})
}

// TestKnotsThatHang has a bar that leads down from each knot that is no fly knot, and not in the lowest row.
func TestKnotsThatHang(t *testing.T) {
	programs(43, 2000, func(_ *dice, l []braid.Course) {
		net := netOf(t, l)
		knots, _ := netting.Knots(net)
		fly, _ := braid.Fly(l)
		for _, k := range knots {
			around, _ := netting.Around(k)
			hangs := slices.ContainsFunc(around, func(b api.Bar) bool { return b.Y < k.Y && slices.Contains(net, b) })
			want(t, "whether a knot hangs", hangs, k.Y != knots[0].Y && !slices.Contains(fly, k))
		}
	})
}

// TestNothingPanics calls everything with extreme numbers, and with structures that are not well-formed.
func TestNothingPanics(t *testing.T) {
	all := extremes()
	call := func(l []braid.Course) {
		braid.CheckProgram(l)
		braid.Order(l)
		braid.Net(l)
		braid.Twines(l)
		braid.Fly(l)
		braid.Mirror(l)
		braid.Back(l)
		braid.Then(l, l)
		braid.Print(l)
		braid.CheckCompiled(nil, l)
	}
	for _, a := range all {
		for _, b := range all {
			for key := range 4 {
				c := braid.Course{At: knot(a, b), Right: key&1 == 0, Up: key&2 == 0, Bars: 3}
				d := braid.Course{At: knot(a, a), Right: key&1 == 0, Up: key&2 == 0, Bars: b}
				braid.Walk(c)
				braid.End(c)
				braid.Walk(d)
				braid.End(d)
				call(program(c, d))
				call(program(d, c))
				braid.Lift(program(c), b, a)
				braid.Used(program(d), a, b)
			}
			braid.Lift(zigzag(), a, b)
			braid.Used(zigzag(), a, b)
			for _, side := range all {
				net := bars(bar(a, b, side))
				braid.Rows(net)
				braid.Compile(net)
				braid.Gains(net)
				braid.Ends(net)
				braid.CheckCompiled(net, zigzag())
			}
		}
	}
	for _, l := range judgedPrograms() {
		call(l.x)
	}
	for _, s := range []string{"", "\n", "-", "at", "at \n", "\x00\n", "at 0 0 right up -\n", "at - - left down -\n", "\xff\n"} {
		braid.Parse(s)
	}
}

// roomy returns a copy of a list with one more element behind it in the same memory.
func roomy[T any](l []T, more T) []T {
	return append(slices.Clone(l), more)[:len(l)]
}

// TestArgumentsAreNotChanged holds the arguments, and what lies behind their lists, against what they were.
func TestArgumentsAreNotChanged(t *testing.T) {
	l, other, net := roomy(zigzag(), rightUp(7, 7, 7)), roomy(program(rightUp(0, 2, 3)), rightUp(9, 9, 9)), roomy(example(), bar(7, 7, 7))
	all := func() string { return fmt.Sprint(l[:3], other[:2], net[:7]) }
	before := all()
	results := func() string {
		order, _ := braid.Order(l)
		made, _ := braid.Net(l)
		twines, _ := braid.Twines(l)
		fly, _ := braid.Fly(other)
		mirrored, _ := braid.Mirror(l)
		back, _ := braid.Back(l)
		lifted, _ := braid.Lift(l, 2, 2)
		still, _ := braid.Lift(l, 0, 0)
		joined, _ := braid.Then(l, other)
		first, _ := braid.Then(l, nil)
		second, _ := braid.Then(nil, l)
		rows, _ := braid.Rows(net)
		compiled, _ := braid.Compile(net)
		gains, _ := braid.Gains(net)
		walk, _ := braid.Walk(l[0])
		braid.CheckCompiled(net, l)
		braid.Ends(net)
		braid.Used(l, 1, 1)
		braid.Print(l)
		s := fmt.Sprint(order, made, twines, fly, mirrored, back, lifted, still, joined, first, second, rows, compiled, gains, walk)
		want(t, "the arguments", all(), before)
		clear(order[:cap(order)])
		clear(made[:cap(made)])
		clear(twines[:cap(twines)])
		clear(fly[:cap(fly)])
		for _, changed := range [][]braid.Course{mirrored, back, lifted, still, joined, first, second, compiled} {
			clear(changed[:cap(changed)])
		}
		clear(rows[:cap(rows)])
		clear(gains[:cap(gains)])
		clear(walk[:cap(walk)])
		want(t, "the arguments after the results are changed", all(), before)
		return s
	}
	again := results()
	want(t, "the results again", results(), again)
}
