package braid_test

import (
	"testing"

	"codend/api"
	"codend/braid"
)

func TestCheckProgram(t *testing.T) {
	for _, l := range judgedPrograms() {
		if got := braid.CheckProgram(l.x); got != l.e {
			t.Errorf("CheckProgram of %d courses, the last ones %v: got %d, want %d", len(l.x), l.x[max(len(l.x)-3, 0):], got, l.e)
		}
	}
}

// TestCheckProgramByDefinition examines lists of courses that are near to one another.
func TestCheckProgramByDefinition(t *testing.T) {
	d := &dice{3}
	count := map[api.Errno]int{}
	for i := range 6000 {
		from := knot(d.below(3)*2, d.below(3)*2)
		var l []braid.Course
		for range d.below(7) {
			c := d.course(from, 1+i%5)
			l, from = append(l, c), lastOf(c)
		}
		e := errorOf(l)
		want(t, "CheckProgram", braid.CheckProgram(l), e)
		count[e]++
	}
	for _, e := range []api.Errno{api.OK, api.ErrOrder, api.ErrTwice} {
		if count[e] < 500 {
			t.Errorf("only %d lists with the error %d", count[e], e)
		}
	}
}

// TestErrorsOfPrograms calls every function that takes a program.
func TestErrorsOfPrograms(t *testing.T) {
	for _, l := range judgedPrograms() {
		order, e := braid.Order(l.x)
		wantOnly(t, "Order", order, e, l.e)
		net, e := braid.Net(l.x)
		wantOnly(t, "Net", net, e, l.e)
		twines, e := braid.Twines(l.x)
		wantOnly(t, "Twines", twines, e, l.e)
		fly, e := braid.Fly(l.x)
		wantOnly(t, "Fly", fly, e, l.e)
		mirrored, e := braid.Mirror(l.x)
		wantOnly(t, "Mirror", mirrored, e, l.e)
		back, e := braid.Back(l.x)
		wantOnly(t, "Back", back, e, l.e)
		lifted, e := braid.Lift(l.x, 0, 0)
		wantOnly(t, "Lift", lifted, e, l.e)
		joined, e := braid.Then(l.x, nil)
		wantOnly(t, "Then: the first program", joined, e, l.e)
		joined, e = braid.Then(nil, l.x)
		wantOnly(t, "Then: the second program", joined, e, l.e)
		used, e := braid.Used(l.x, 1, 0)
		wantOnly(t, "Used", used, e, l.e)
		s, e := braid.Print(l.x)
		wantOnly(t, "Print", s, e, l.e)
		want(t, "CheckCompiled", braid.CheckCompiled(net, l.x), l.e)
		if l.e != api.OK {
			want(t, "CheckCompiled of another net", braid.CheckCompiled(example(), l.x), l.e)
		}
	}
}

// TestErrorsOfNets calls every function that takes a net.
func TestErrorsOfNets(t *testing.T) {
	for _, l := range judgedNets() {
		if l.e == api.OK {
			continue
		}
		rows, e := braid.Rows(l.x)
		wantOnly(t, "Rows", rows, e, l.e)
		c, e := braid.Compile(l.x)
		wantOnly(t, "Compile", c, e, l.e)
		gains, e := braid.Gains(l.x)
		wantOnly(t, "Gains", gains, e, l.e)
		n, e := braid.Ends(l.x)
		wantOnly(t, "Ends", n, e, l.e)
		want(t, "CheckCompiled", braid.CheckCompiled(l.x, zigzag()), l.e)
		want(t, "CheckCompiled with a bad program", braid.CheckCompiled(l.x, program(rightUp(1, 0, 0))), l.e)
	}
}
