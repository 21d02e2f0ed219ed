package braid_test

import (
	"slices"
	"testing"

	"codend/api"
	"codend/braid"
)

func TestMirror(t *testing.T) {
	l, e := braid.Mirror(zigzag())
	want(t, "Mirror", l, program(leftUp(0, 0, 3), rightUp(-3, 1, 3)))
	want(t, "Mirror: error", e, api.OK)
	l, _ = braid.Mirror(program(leftDown(-99999, 1, 1), rightDown(99990, 10, 10)))
	want(t, "Mirror", l, program(rightDown(99999, 1, 1), leftDown(-99990, 10, 10)))
	l, e = braid.Mirror(nil)
	want(t, "Mirror of the empty program", l, program())
	want(t, "Mirror: error", e, api.OK)
}

func TestBack(t *testing.T) {
	for _, x := range []struct{ l, back []braid.Course }{
		{zigzag(), program(leftDown(3, 1, 3), rightDown(0, 2, 3))},
		{nil, nil},
		{program(rightUp(0, 0, 1)), program(leftDown(1, 1, 1))},
		{program(rightUp(0, 0, 2)), program(leftUp(2, 0, 2))},
		{program(leftDown(0, 0, 1)), program(rightUp(-1, -1, 1))},
		{program(leftDown(0, 0, 2), rightDown(0, 0, 512)), program(rightDown(-2, 0, 2), leftDown(512, 0, 512))},
	} {
		l, e := braid.Back(x.l)
		want(t, "Back", l, x.back)
		want(t, "Back: error", e, api.OK)
		l, e = braid.Back(x.back)
		want(t, "Back twice", l, x.l)
		want(t, "Back twice: error", e, api.OK)
	}
}

func TestLift(t *testing.T) {
	edge := program(rightUp(-100000, -100000, 3))
	for _, x := range []struct {
		l       []braid.Course
		dx, dy  int
		shifted []braid.Course
		e       api.Errno
	}{
		{zigzag(), 1, 1, program(rightUp(1, 1, 3), leftUp(4, 2, 3)), api.OK},
		{zigzag(), 0, 0, zigzag(), api.OK},
		{zigzag(), -7, 3, program(rightUp(-7, 3, 3), leftUp(-4, 4, 3)), api.OK},
		{zigzag(), 1, 0, nil, api.ErrLattice},
		{zigzag(), 0, -1, nil, api.ErrLattice},
		{zigzag(), -2, -3, nil, api.ErrLattice},
		{zigzag(), -99999, 100000, nil, api.ErrLattice},
		{zigzag(), 99997, 1, program(rightUp(99997, 1, 3), leftUp(100000, 2, 3)), api.OK},
		{zigzag(), 99998, 0, nil, api.ErrRange},
		{zigzag(), 0, 99998, program(rightUp(0, 99998, 3), leftUp(3, 99999, 3)), api.OK},
		{zigzag(), 1, 99999, nil, api.ErrRange},
		{zigzag(), -100000, -100000, program(rightUp(-100000, -100000, 3), leftUp(-99997, -99999, 3)), api.OK},
		{zigzag(), -100001, 1, nil, api.ErrRange},
		{zigzag(), 1, -100001, nil, api.ErrRange},
		{edge, 199997, 199999, program(rightUp(99997, 99999, 3)), api.OK},
		{edge, 199998, 199998, nil, api.ErrRange},
		{edge, 199996, 200000, nil, api.ErrRange},
		{edge, 200000, 200000, nil, api.ErrRange},
		{edge, 200000, 199999, nil, api.ErrLattice},
		{edge, 200001, 199999, nil, api.ErrRange},
		{edge, 200001, 0, nil, api.ErrRange},
		{edge, 0, -200001, nil, api.ErrRange},
		// the empty program is at no place
		{nil, 200000, -200000, nil, api.OK},
		{nil, 200000, -199999, nil, api.ErrLattice},
		{nil, 200001, -199999, nil, api.ErrRange},
		{nil, 199999, -200001, nil, api.ErrRange},
		{nil, -200002, 0, nil, api.ErrRange},
		{program(rightUp(1, 0, 0)), 200001, 0, nil, api.ErrLattice},
		{program(rightUp(0, 0, 0)), 1, 0, nil, api.ErrRange},
	} {
		l, e := braid.Lift(x.l, x.dx, x.dy)
		wantOnly(t, "Lift", l, e, x.e)
		want(t, "Lift", l, x.shifted)
	}
	for _, n := range extremes() {
		for _, m := range extremes() {
			wanted := firstOf(inRange(n, -200000, 200000), inRange(m, -200000, 200000))
			if wanted == api.OK && (n+m)%2 != 0 {
				wanted = api.ErrLattice
			}
			_, e := braid.Lift(nil, n, m)
			want(t, "Lift: error", e, wanted)
		}
	}
}

func TestThen(t *testing.T) {
	bad := program(rightUp(1, 0, 0))
	for _, x := range []struct {
		a, b, l []braid.Course
		e       api.Errno
	}{
		{zigzag()[:1], zigzag()[1:], zigzag(), api.OK},
		{zigzag(), nil, zigzag(), api.OK},
		{nil, zigzag(), zigzag(), api.OK},
		{nil, nil, nil, api.OK},
		{zigzag()[1:], zigzag()[:1], nil, api.ErrOrder},
		{zigzag(), zigzag()[1:], nil, api.ErrTwice},
		{tower(200, 1), tower(57, 1), nil, api.ErrMany},
		{tower(256, 1), program(rightUp(0, 256, 1)), nil, api.ErrMany},
		{tower(255, 1), program(rightUp(1, 255, 1)), tower(256, 1), api.OK},
		{tower(8, 512), program(rightUp(0, 8, 1)), nil, api.ErrLarge},
		{tower(256, 1), tower(256, 1), nil, api.ErrMany},
		{zigzag(), bad, nil, api.ErrLattice},
		{bad, program(rightUp(0, 0, 0)), nil, api.ErrLattice},
		{program(rightUp(0, 0, 0)), bad, nil, api.ErrRange},
		{zigzag()[1:], program(zigzag()[0], rightUp(0, 0, 0)), nil, api.ErrRange},
		{program(zigzag()[0], zigzag()[0]), tower(257, 1), nil, api.ErrTwice},
		{zigzag(), tower(257, 1), nil, api.ErrMany},
	} {
		l, e := braid.Then(x.a, x.b)
		wantOnly(t, "Then", l, e, x.e)
		want(t, "Then", l, x.l)
	}
}

func TestChangesByDefinition(t *testing.T) {
	programs(23, 2000, func(d *dice, l []braid.Course) {
		dx, dy := d.below(9)-4, d.below(9)-4
		dx += (dx + dy) & 1
		var mirrored, back, lifted []braid.Course
		for _, c := range l {
			w := walked(c)
			mirrored = append(mirrored, braid.Course{At: knot(-c.At.X, c.At.Y), Right: !c.Right, Up: c.Up, Bars: c.Bars})
			back = append(back, braid.Course{At: w[c.Bars], Right: !c.Right, Up: w[c.Bars-1].Y > w[c.Bars].Y, Bars: c.Bars})
			lifted = append(lifted, braid.Course{At: knot(c.At.X+dx, c.At.Y+dy), Right: c.Right, Up: c.Up, Bars: c.Bars})
		}
		got, e := braid.Mirror(l)
		want(t, "Mirror", got, mirrored)
		want(t, "Mirror: error", e, api.OK)
		got, e = braid.Back(l)
		want(t, "Back", got, back)
		want(t, "Back: error", e, api.OK)
		got, e = braid.Lift(l, dx, dy)
		want(t, "Lift", got, lifted)
		want(t, "Lift: error", e, api.OK)
		i := d.below(len(l) + 1)
		got, e = braid.Then(l[:i], l[i:])
		want(t, "Then", got, l)
		want(t, "Then: error", e, api.OK)
		more := slices.Concat(l, lifted)
		wanted := errorOf(more)
		got, e = braid.Then(l, lifted)
		wantOnly(t, "Then", got, e, wanted)
		if wanted == api.OK {
			want(t, "Then", got, more)
		}
	})
}
