package seam_test

import (
	"fmt"
	"reflect"
	"slices"
	"testing"

	"codend/api"
	"codend/netting"
	"codend/seam"
)

func TestEvenJoinsHaveEachMesh(t *testing.T) {
	for _, x := range someNumbers() {
		pairs, _ := seam.Joins(x.m, x.n)
		count := [2]map[int]int{{}, {}}
		for _, pair := range pairs {
			count[0][pair[0]]++
			count[1][pair[1]]++
		}
		for i, meshes := range []int{x.m, x.n} {
			want(t, "joined meshes", len(count[i]), meshes)
			for mesh, times := range count[i] {
				if mesh < 0 || mesh >= meshes || meshes == max(x.m, x.n) && times != 1 {
					t.Errorf("Joins %d %d: the mesh %d is joined %d times", x.m, x.n, mesh, times)
				}
			}
		}
	}
}

func TestRunsOfEvenJoinsAreEvenAsARing(t *testing.T) {
	for _, x := range someNumbers() {
		pairs, _ := seam.Joins(x.m, x.n)
		runs, _ := seam.Runs(x.m, x.n, pairs)
		for i := range runs {
			if len(runs) > 40 && i%16 != 0 {
				continue
			}
			even, e := seam.Even(slices.Concat(runs[i:], runs[:i]))
			if !even || e != api.OK {
				t.Errorf("Even of the runs of %d and %d from %d on: %v, error %d", x.m, x.n, i, even, e)
			}
		}
	}
}

func TestReversedTwice(t *testing.T) {
	for _, x := range someJoins() {
		once, _ := seam.Reverse(x.m, x.n, x.l)
		want(t, "CheckJoins of the reversed join", seam.CheckJoins(x.m, x.n, once), api.OK)
		twice, _ := seam.Reverse(x.m, x.n, once)
		want(t, "Reverse twice", twice, x.l)
	}
}

func TestComposedJoinsHavePartners(t *testing.T) {
	d := &dice{11}
	for range 400 {
		m, n, o := 1+d.below(40), 1+d.below(40), 1+d.below(40)
		c, e := seam.Compose(d.joins(m, n).l, d.joins(n, o).l)
		want(t, "Compose: error", e, api.OK)
		first, third := map[int]bool{}, map[int]bool{}
		for i, pair := range c {
			first[pair[0]], third[pair[1]] = true, true
			if pair[0] >= m || pair[1] >= o || i > 0 && slices.Compare(c[i-1][:], pair[:]) >= 0 {
				t.Errorf("Compose: the pair %d is %v", i, pair)
			}
		}
		want(t, "meshes with a partner", []int{len(first), len(third)}, []int{m, o})
	}
}

// TestPiecesSewnAtCommonKnots holds what is sewn of two pieces against the union of their nets, class by class.
func TestPiecesSewnAtCommonKnots(t *testing.T) {
	d := &dice{13}
	for range 200 {
		a := d.net()
		b, _ := netting.Minus(d.net(), a)
		nets := [][]api.Bar{a, b}
		joins, _ := seam.Common(nets, 0, 1)
		s, e := seam.Sew(nets, joins)
		want(t, "Sew: error", e, api.OK)
		union, _ := netting.Union(a, b)
		knots, _ := netting.Knots(union)
		var bars []api.Bar
		for i, ends := range s.Bars {
			p, q := s.Classes[ends[0]][0].Knot, s.Classes[ends[1]][0].Knot
			if p.Y > q.Y {
				p, q = q, p
			}
			bars = append(bars, bar(p.X, p.Y, q.X-p.X))
			want(t, "bar", bars[i], slices.Concat(a, b)[i])
		}
		var own []api.Knot
		for _, c := range s.Classes {
			own = append(own, c[0].Knot)
			for _, p := range c {
				want(t, "knots of a class", p.Knot, c[0].Knot)
			}
		}
		slices.SortFunc(own, func(p, q api.Knot) int { return slices.Compare([]int{p.Y, p.X}, []int{q.Y, q.X}) })
		want(t, "classes are knots of the union", own, knots)
		count, _ := seam.Counts(s)
		of, _ := netting.Count(union)
		want(t, "Counts", count, seam.Count{Classes: of.Knots, Bars: of.Bars, Parts: of.Parts, Cycles: of.Meshes + of.Holes})
	}
}

func TestFurtherJoins(t *testing.T) {
	for _, s := range someSewings() {
		before := len(knotsOf(s.nets))
		for i := range len(s.joins) + 1 {
			sewn, _ := seam.Sew(s.nets, s.joins[:i])
			if less := before - len(sewn.Classes); less < 0 || less > 1 || i == 0 && less != 0 {
				t.Errorf("Sew: the join %d lessens the classes by %d", i, less)
			}
			before = len(sewn.Classes)
		}
	}
}

func TestOrderOfJoins(t *testing.T) {
	for i, s := range someSewings() {
		sewn, _ := seam.Sew(s.nets, s.joins)
		order, _ := netting.Draw(i+1, len(s.joins))
		var other []seam.Join
		for _, at := range order {
			j := s.joins[at]
			if at%2 == i%2 {
				j = joined(j.B, j.A)
			}
			other = append(other, j)
		}
		again, e := seam.Sew(s.nets, other)
		wantSewn(t, again, sewn)
		want(t, "Sew: error", e, api.OK)
	}
}

// arguments are those of all functions.
type arguments struct {
	edge   []api.Knot
	dx, dy int
	m, n   int
	pairs  [][2]int
	other  [][2]int
	runs   []int
	rate   string
	nets   [][]api.Bar
	joins  []seam.Join
	sewn   seam.Sewn
	place  seam.Place
	one    int
	two    int
}

// goodArguments returns arguments without an error; behind their lists there are others in the same memory.
func goodArguments() *arguments {
	nets := [][]api.Bar{roomy(list(bar(0, 0, 1))), roomy(sheet(0, 0, 2, 2))}
	joins := []seam.Join{joined(place(1, 2, 2), place(0, 1, 1)), joined(place(0, 1, 1), place(1, 0, 2)), joined(place(1, 0, 0), place(0, 0, 0))}
	sewn := seam.Sewn{Classes: roomy(classes(roomy(class(place(0, 4, 0), place(0, 0, 0))), roomy(class(place(1, 0, 0))))), Bars: roomy([][2]int{{0, 1}, {1, 1}})}
	return &arguments{
		edge: roomy(zigzag(0, 0, 3)), dx: 1, dy: 1, m: 3, n: 5,
		pairs: roomy([][2]int{{0, 0}, {0, 1}, {1, 2}, {1, 3}, {2, 4}}), other: roomy([][2]int{{0, 0}, {1, 0}, {2, 1}, {3, 1}, {4, 2}}),
		runs: roomy([]int{2, 2, 1}), rate: "2x2 1x1", nets: roomy(nets), joins: roomy(joins), sewn: sewn, place: place(0, 0, 0), one: 0, two: 1,
	}
}

// roomy returns a list with elements behind it in its memory.
func roomy[T any](l []T) []T {
	return append(slices.Clone(l), make([]T, 3)...)[:len(l)]
}

// calls calls each function, and returns the first of its results, and the error.
func calls(a *arguments) map[string]func() (any, api.Errno) {
	type result = func() (any, api.Errno)
	return map[string]result{
		"CheckEdge":   func() (any, api.Errno) { return 0, seam.CheckEdge(a.edge) },
		"Moved":       func() (any, api.Errno) { r, e := seam.Moved(a.edge, a.dx, a.dy); return r, e },
		"Joins":       func() (any, api.Errno) { r, e := seam.Joins(a.m, a.n); return r, e },
		"CheckJoins":  func() (any, api.Errno) { return 0, seam.CheckJoins(a.m, a.n, a.pairs) },
		"Runs":        func() (any, api.Errno) { r, e := seam.Runs(a.m, a.n, a.pairs); return r, e },
		"FromRuns":    func() (any, api.Errno) { r, e := seam.FromRuns(a.runs); return r, e },
		"Even":        func() (any, api.Errno) { r, e := seam.Even(a.runs); return r, e },
		"Takeup":      func() (any, api.Errno) { r, e := seam.Takeup(a.m, a.n); return r, e },
		"Rate":        func() (any, api.Errno) { r, e := seam.Rate(a.m, a.n); return r, e },
		"ParseRate":   func() (any, api.Errno) { r, e := seam.ParseRate(a.rate); return r, e },
		"Reverse":     func() (any, api.Errno) { r, e := seam.Reverse(a.m, a.n, a.pairs); return r, e },
		"Compose":     func() (any, api.Errno) { r, e := seam.Compose(a.pairs, a.other); return r, e },
		"Seam":        func() (any, api.Errno) { r, e := seam.Seam(a.one, a.edge, a.two, a.edge); return r, e },
		"CheckPieces": func() (any, api.Errno) { return 0, seam.CheckPieces(a.nets) },
		"CheckSeams":  func() (any, api.Errno) { return 0, seam.CheckSeams(a.nets, a.joins) },
		"Sew":         func() (any, api.Errno) { r, e := seam.Sew(a.nets, a.joins); return r, e },
		"ClassOf":     func() (any, api.Errno) { r, e := seam.ClassOf(a.sewn, a.place); return r, e },
		"Degrees":     func() (any, api.Errno) { r, e := seam.Degrees(a.sewn); return r, e },
		"Counts":      func() (any, api.Errno) { r, e := seam.Counts(a.sewn); return r, e },
		"Loose":       func() (any, api.Errno) { r, e := seam.Loose(a.nets, a.joins); return r, e },
		"Common":      func() (any, api.Errno) { r, e := seam.Common(a.nets, a.one, a.two); return r, e },
	}
}

// isZero reports whether a result is its zero value; an empty list is one, too.
func isZero(r any) bool {
	v := reflect.ValueOf(r)
	return v.IsZero() || v.Kind() == reflect.Slice && v.Len() == 0
}

// TestNothingBesideAnError calls everything with extreme numbers: nothing panics, and an error comes alone.
func TestNothingBesideAnError(t *testing.T) {
	for _, n := range extremes() {
		for _, k := range extremes() {
			for name, call := range calls(&arguments{
				edge: edge(knot(n, k), knot(n+1, k+1)), dx: n, dy: k, m: n, n: k,
				pairs: [][2]int{{0, 0}, {n, k}}, other: [][2]int{{0, 0}, {k, n}},
				runs: []int{n, k, n}, rate: fmt.Sprintf("%dx%d %dx%d", n, k, k, n),
				nets: [][]api.Bar{list(bar(n, k, 1)), list(bar(k, n, -1)), list(bar(0, 0, k))}, joins: []seam.Join{joined(place(n, n, k), place(k, k, n)), joined(place(0, n, k), place(1, k, n))},
				sewn:  seam.Sewn{Classes: classes(class(place(n, k, n)), class(place(k, n, k))), Bars: [][2]int{{n, k}, {0, 1}}},
				place: place(n, k, n), one: n, two: k,
			}) {
				if r, e := call(); e != api.OK && !isZero(r) {
					t.Errorf("%s with %d and %d: %v beside the error %d", name, n, k, r, e)
				}
			}
		}
	}
}

func TestNothingAsArguments(t *testing.T) {
	for name, call := range calls(&arguments{}) {
		if r, e := call(); e != api.OK && !isZero(r) {
			t.Errorf("%s: %v beside the error %d", name, r, e)
		}
	}
}

// TestArgumentsAreNotChanged holds the arguments, and what lies behind their lists, against what they were.
func TestArgumentsAreNotChanged(t *testing.T) {
	a := goodArguments()
	whole := func() string {
		s := fmt.Sprint(a.edge[:6], a.pairs[:8], a.other[:8], a.runs[:6], a.joins[:6], a.nets[:5], a.sewn.Classes[:5], a.sewn.Bars[:5])
		for _, net := range a.nets {
			s += fmt.Sprint(net[:len(net)+3])
		}
		for _, c := range a.sewn.Classes {
			s += fmt.Sprint(c[:len(c)+3])
		}
		return s
	}
	before := whole()
	for name, call := range calls(a) {
		first, e := call()
		want(t, name+": error", e, api.OK)
		want(t, name+": the arguments", whole(), before)
		second, _ := call()
		want(t, name+": the same again", second, first)
	}
}

// TestResultsShareNoMemory overwrites each list of a result, also behind its end; neither the arguments, nor the other lists, nor later results change.
func TestResultsShareNoMemory(t *testing.T) {
	a := goodArguments()
	before := fmt.Sprint(*a)
	for name, call := range calls(a) {
		r, _ := call()
		wanted := fmt.Sprint(r)
		for i := range listsOf(r) {
			r, _ := call()
			own := listsOf(r)
			var others []string
			for _, l := range own {
				others = append(others, fmt.Sprint(l))
			}
			overwrite(own[i])
			for j, l := range own {
				if j != i {
					want(t, name+": the other lists", fmt.Sprint(l), others[j])
				}
			}
		}
		want(t, name+": the arguments", fmt.Sprint(*a), before)
		r, _ = call()
		want(t, name+": a later result", fmt.Sprint(r), wanted)
	}
}

// listsOf returns the lists of a result that contain no other ones.
func listsOf(r any) []reflect.Value {
	v := reflect.ValueOf(r)
	if s, ok := r.(seam.Sewn); ok {
		l := []reflect.Value{reflect.ValueOf(s.Bars)}
		for _, c := range s.Classes {
			l = append(l, reflect.ValueOf(c))
		}
		return l
	}
	if v.Kind() == reflect.Slice {
		return []reflect.Value{v}
	}
	return nil
}

func overwrite(l reflect.Value) {
	l = l.Slice(0, l.Cap())
	for i := range l.Len() {
		fill(l.Index(i))
	}
}

// fill sets all numbers of a value to one that no result has.
func fill(v reflect.Value) {
	switch v.Kind() {
	case reflect.Int:
		v.SetInt(-77)
	case reflect.Struct:
		for i := range v.NumField() {
			fill(v.Field(i))
		}
	case reflect.Array:
		for i := range v.Len() {
			fill(v.Index(i))
		}
	}
}
