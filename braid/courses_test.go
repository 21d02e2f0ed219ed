package braid_test

import (
	"testing"

	"codend/api"
	"codend/braid"
)

func TestWalk(t *testing.T) {
	for _, x := range []struct {
		c braid.Course
		l []api.Knot
	}{
		{leftUp(3, 1, 3), []api.Knot{knot(3, 1), knot(2, 2), knot(1, 1), knot(0, 2)}},
		{rightUp(0, 0, 3), []api.Knot{knot(0, 0), knot(1, 1), knot(2, 0), knot(3, 1)}},
		{rightDown(0, 2, 2), []api.Knot{knot(0, 2), knot(1, 1), knot(2, 2)}},
		{leftDown(-3, -1, 4), []api.Knot{knot(-3, -1), knot(-4, -2), knot(-5, -1), knot(-6, -2), knot(-7, -1)}},
		{rightUp(-1, 1, 1), []api.Knot{knot(-1, 1), knot(0, 2)}},
	} {
		l, e := braid.Walk(x.c)
		want(t, "Walk", l, x.l)
		want(t, "Walk: error", e, api.OK)
		k, e := braid.End(x.c)
		want(t, "End", k, x.l[len(x.l)-1])
		want(t, "End: error", e, api.OK)
	}
}

func TestWalksByDefinition(t *testing.T) {
	for _, x := range judgedCourses() {
		l, e := braid.Walk(x.x)
		wantOnly(t, "Walk", l, e, x.e)
		k, e := braid.End(x.x)
		wantOnly(t, "End", k, e, x.e)
		if x.e == api.OK {
			want(t, "Walk", l, walked(x.x))
			want(t, "End", k, lastOf(x.x))
		}
	}
	for n := range 512 {
		for _, c := range program(rightUp(-7, 3, n+1), rightDown(-7, 3, n+1), leftUp(4, -4, n+1), leftDown(4, -4, n+1)) {
			l, e := braid.Walk(c)
			want(t, "Walk", l, walked(c))
			want(t, "Walk: error", e, api.OK)
			k, _ := braid.End(c)
			want(t, "End", k, lastOf(c))
		}
	}
}
