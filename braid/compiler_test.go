package braid_test

import (
	"slices"
	"testing"

	"codend/api"
	"codend/braid"
)

// without returns a net that lacks the bar with an index.
func without(net []api.Bar, i int) []api.Bar {
	return slices.Delete(slices.Clone(net), i, i+1)
}

func TestCompile(t *testing.T) {
	for _, x := range []struct {
		net  []api.Bar
		l    []braid.Course
		what string
	}{
		{example(), zigzag(), "one piece"},
		{example()[:5], program(rightUp(0, 0, 3), rightDown(0, 2, 2)), "two pieces"},
		{without(example(), 3), program(rightUp(0, 0, 3), leftUp(3, 1, 2)), "a narrower row"},
		{without(example(), 2), program(rightUp(0, 0, 2), rightDown(0, 2, 3)), "two pieces in any directions"},
		{bars(bar(2, 0, -1), bar(2, 0, 1), bar(1, 1, 1)), program(leftDown(3, 1, 2), rightUp(1, 1, 1)), "to the left first"},
		{bars(bar(0, 0, 1)), program(rightUp(0, 0, 1)), "one bar up"},
		{bars(bar(0, 0, -1)), program(rightDown(-1, 1, 1)), "one bar down"},
		{bars(bar(0, 0, 1), bar(9, 1, 1)), program(rightUp(0, 0, 1), rightUp(9, 1, 1)), "rows apart from each other"},
		{bars(bar(0, -2, 1), bar(1, -1, 1), bar(2, 0, 1)), program(rightUp(0, -2, 1), rightUp(1, -1, 1), rightUp(2, 0, 1)), "always to the right"},
	} {
		l, e := braid.Compile(x.net)
		want(t, "Compile: "+x.what, l, x.l)
		want(t, "Compile: error", e, api.OK)
		want(t, "CheckCompiled: "+x.what, braid.CheckCompiled(x.net, x.l), api.OK)
	}
}

// heap returns a net with rows of so many bars, each one to the right of the column 0.
func heap(widths ...int) []api.Bar {
	var l []api.Bar
	for y, n := range widths {
		l = append(l, inOrder(barsOf(rightUp(y%2, y, n)))...)
	}
	return l
}

func TestCompileLargeNets(t *testing.T) {
	for _, x := range []struct {
		net []api.Bar
		e   api.Errno
	}{
		{heap(slices.Repeat([]int{16}, 256)...), api.OK},
		{heap(slices.Repeat([]int{1}, 256)...), api.OK},
		{heap(slices.Repeat([]int{1}, 257)...), api.ErrMany},
		{heap(slices.Repeat([]int{1}, 4096)...), api.ErrMany},
		{heap(slices.Repeat([]int{512}, 8)...), api.OK},
		{heap(512), api.OK},
		{heap(513), api.ErrRange},
		{heap(1, 1, 513, 1), api.ErrRange},
		{heap(1, 1, 1, 4093), api.ErrRange},
		{heap(append(slices.Repeat([]int{1}, 256), 513)...), api.ErrMany},
		{heap(append([]int{513}, slices.Repeat([]int{1}, 256)...)...), api.ErrMany},
		{heap(append([]int{513}, slices.Repeat([]int{1}, 255)...)...), api.ErrRange},
		{append(heap(slices.Repeat([]int{1}, 257)...), bar(0, 258, 1)), api.ErrApart},
		{append(heap(513), bar(1, 3, 1)), api.ErrApart},
	} {
		l, e := braid.Compile(x.net)
		wantOnly(t, "Compile", l, e, x.e)
		rows, e := braid.Rows(x.net)
		gains, gainsError := braid.Gains(x.net)
		want(t, "Gains: error", gainsError, e)
		if x.e == api.ErrApart {
			want(t, "Rows: error", e, api.ErrApart)
			continue
		}
		wanted, _ := rowsOf(x.net)
		want(t, "Rows have no limits", rows, wanted)
		want(t, "Rows: error", e, api.OK)
		want(t, "how many gains", len(gains), len(rows)-1)
		if x.e == api.OK {
			want(t, "Compile", l, compiledUpwards(x.net))
			want(t, "CheckCompiled", braid.CheckCompiled(x.net, l), api.OK)
		}
	}
}

// TestCompileAtTheEdges has nets that touch the edges of the lattice.
func TestCompileAtTheEdges(t *testing.T) {
	for _, at := range []api.Knot{knot(-100000, -100000), knot(99990, -100000), knot(-100000, 99990), knot(99990, 99990)} {
		var net []api.Bar
		for _, b := range heap(9, 9, 9, 9, 9, 9, 9, 9, 9, 9) {
			net = append(net, bar(b.X+at.X, b.Y+at.Y, b.Side))
		}
		l, e := braid.Compile(net)
		want(t, "Compile", l, compiledOf(net))
		want(t, "Compile: error", e, api.OK)
		want(t, "CheckCompiled", braid.CheckCompiled(net, l), api.OK)
	}
}

// TestCompileByDefinition compares with all choices of directions.
func TestCompileByDefinition(t *testing.T) {
	count := map[int]int{}
	lefts := 0
	nets(11, 1500, 7, func(_ *dice, net []api.Bar) {
		wanted := compiledOf(net)
		l, e := braid.Compile(net)
		want(t, "Compile", l, wanted)
		want(t, "Compile: error", e, api.OK)
		count[len(beginnings(wanted))]++
		if !wanted[0].Right {
			lefts++
		}
	})
	for n := 1; n <= 4; n++ {
		if count[n] < 50 {
			t.Errorf("only %d nets with %d pieces of twine", count[n], n)
		}
	}
	if lefts < 100 {
		t.Errorf("only %d programs begin to the left", lefts)
	}
}

func TestCompileLongerNets(t *testing.T) {
	nets(13, 300, 60, func(_ *dice, net []api.Bar) {
		l, e := braid.Compile(net)
		want(t, "Compile", l, compiledUpwards(net))
		want(t, "Compile: error", e, api.OK)
	})
	nets(17, 300, 8, func(_ *dice, net []api.Bar) {
		want(t, "both ways to compile in the tests", compiledUpwards(net), compiledOf(net))
	})
}

func TestCheckCompiled(t *testing.T) {
	for _, x := range []struct {
		net []api.Bar
		l   []braid.Course
		e   api.Errno
	}{
		{example(), zigzag(), api.OK},
		{example(), program(leftDown(3, 1, 3), leftUp(3, 1, 3)), api.OK},
		{example(), program(rightUp(0, 0, 1), rightUp(2, 0, 1), leftUp(2, 0, 1), leftUp(3, 1, 3)), api.OK},
		{example()[:5], zigzag(), api.ErrProof},
		{example()[1:], zigzag(), api.ErrProof},
		{example(), zigzag()[:1], api.ErrProof},
		{example(), nil, api.ErrProof},
		{nil, zigzag(), api.ErrProof},
		{nil, nil, api.OK},
		{heap(3, 4), zigzag(), api.ErrProof},
		{bars(bar(0, 0, 1)), program(rightUp(2, 0, 1)), api.ErrProof},
		{bars(bar(0, 0, 1)), program(leftUp(0, 0, 1)), api.ErrProof},
		{bars(bar(0, 0, 1), bar(8, 0, 1)), program(rightUp(0, 0, 1), rightUp(8, 0, 1)), api.OK},
		{example(), program(zigzag()[1], zigzag()[0]), api.ErrOrder},
		{example(), program(zigzag()[0], zigzag()[0]), api.ErrTwice},
		{bars(bar(0, 0, 1), bar(0, 0, 1)), program(zigzag()[0], zigzag()[0]), api.ErrOrder},
	} {
		want(t, "CheckCompiled", braid.CheckCompiled(x.net, x.l), x.e)
	}
}

func TestEnds(t *testing.T) {
	for _, x := range []struct {
		net []api.Bar
		n   int
	}{
		{nil, 0},
		{example(), 1},
		{example()[:5], 2},
		{bars(bar(0, 0, 1)), 1},
		{bars(bar(0, 0, 1), bar(8, 0, 1)), 2},
		{bars(bar(0, 0, -1), bar(0, 0, 1)), 1},
		{bars(bar(0, 0, -1), bar(0, 0, 1), bar(-1, 1, 1), bar(1, 1, -1)), 1}, // no odd knot
		{bars(bar(0, 0, -1), bar(0, 0, 1), bar(-1, 1, 1), bar(1, 1, -1), bar(9, 1, 1), bar(0, 8, 1)), 3},
		{bars(bar(0, 0, 1), bar(2, 0, -1), bar(1, 1, -1)), 2},               // a knot of three, three of one
		{bars(bar(0, 0, 1), bar(2, 0, -1), bar(1, 1, -1), bar(1, 1, 1)), 2}, // a knot of four
	} {
		n, e := braid.Ends(x.net)
		want(t, "Ends", n, x.n)
		want(t, "Ends: error", e, api.OK)
	}
}

// TestEndsByDefinition takes many bars from nets, so that they have several parts.
func TestEndsByDefinition(t *testing.T) {
	several := 0
	nets(19, 2000, 8, func(d *dice, net []api.Bar) {
		for range d.below(len(net)) {
			net = without(net, d.below(len(net)))
		}
		wanted := endsOf(net)
		n, e := braid.Ends(net)
		want(t, "Ends", n, wanted)
		want(t, "Ends: error", e, api.OK)
		if wanted > 4 {
			several++
		}
	})
	if several < 100 {
		t.Errorf("only %d nets need many pieces", several)
	}
}
