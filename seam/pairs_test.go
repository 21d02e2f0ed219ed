package seam_test

import (
	"slices"
	"testing"

	"codend/api"
	"codend/seam"
)

// someNumbers returns pairs of numbers of meshes: all small ones, and some up to the limit.
func someNumbers() []numbers {
	var l []numbers
	for m := 1; m <= 30; m++ {
		for n := 1; n <= 30; n++ {
			l = append(l, numbers{m, n})
		}
	}
	for _, n := range []int{1, 2, 3, 7, 64, 100, 127, 128, 129, 170, 171, 254, 255, 256} {
		l = append(l, numbers{256, n}, numbers{n, 256}, numbers{255, n}, numbers{n, 255})
	}
	return l
}

// someJoins returns pairs that join edges, even and uneven ones.
func someJoins() []pairing {
	var l []pairing
	for _, x := range someNumbers() {
		pairs, _ := seam.Joins(x.m, x.n)
		l = append(l, pairing{x.m, x.n, pairs, api.OK})
	}
	d := &dice{1}
	for range 300 {
		l = append(l, d.joins(1+d.below(60), 1+d.below(60)))
	}
	return append(l, d.joins(256, 100), d.joins(100, 256), d.joins(1, 256), d.joins(256, 256))
}

// joins returns pairs whose rises in the shorter edge stand anywhere.
func (d *dice) joins(m, n int) pairing {
	at := [2]int{}
	pairs := [][2]int{at}
	for i := 1; i < max(m, n); i++ {
		rises := min(m, n) - 1 - min(at[0], at[1])
		rise := 0
		if d.below(max(m, n)-i) < rises {
			rise = 1
		}
		switch {
		case m == n:
			at = [2]int{i, i}
		case m < n:
			at = [2]int{at[0] + rise, i}
		default:
			at = [2]int{i, at[1] + rise}
		}
		pairs = append(pairs, at)
	}
	return pairing{m, n, pairs, api.OK}
}

func TestJoins(t *testing.T) {
	for _, row := range []struct {
		m, n  int
		pairs [][2]int
	}{
		{3, 5, [][2]int{{0, 0}, {0, 1}, {1, 2}, {1, 3}, {2, 4}}},
		{5, 3, [][2]int{{0, 0}, {1, 0}, {2, 1}, {3, 1}, {4, 2}}},
		{2, 2, [][2]int{{0, 0}, {1, 1}}},
		{1, 1, [][2]int{{0, 0}}},
		{1, 3, [][2]int{{0, 0}, {0, 1}, {0, 2}}},
		{3, 1, [][2]int{{0, 0}, {1, 0}, {2, 0}}},
		{5, 7, [][2]int{{0, 0}, {0, 1}, {1, 2}, {2, 3}, {2, 4}, {3, 5}, {4, 6}}},
	} {
		pairs, e := seam.Joins(row.m, row.n)
		want(t, "Joins", pairs, row.pairs)
		want(t, "Joins: error", e, api.OK)
	}
	for _, x := range badNumbers() {
		pairs, e := seam.Joins(x.m, x.n)
		want(t, "Joins", pairs, [][2]int(nil))
		want(t, "Joins: error", e, api.ErrRange)
	}
}

// TestJoinsByDefinition holds each pair against the quotients that it is rounded down from.
func TestJoinsByDefinition(t *testing.T) {
	for _, x := range someNumbers() {
		pairs, e := seam.Joins(x.m, x.n)
		longer := max(x.m, x.n)
		want(t, "Joins: error", e, api.OK)
		want(t, "Joins: number", len(pairs), longer)
		for k, pair := range pairs {
			for i, meshes := range []int{x.m, x.n} {
				if rest := k*meshes - pair[i]*longer; rest < 0 || rest >= longer {
					t.Errorf("Joins %d %d: the pair %d is %v", x.m, x.n, k, pair)
				}
			}
		}
	}
}

func TestCheckJoins(t *testing.T) {
	for _, x := range someJoins() {
		want(t, "CheckJoins", seam.CheckJoins(x.m, x.n, x.l), api.OK)
	}
	for _, bad := range badJoins() {
		want(t, "CheckJoins", seam.CheckJoins(bad.m, bad.n, bad.l), bad.e)
	}
}

// joinError is the error of pairs for small numbers of meshes.
func joinError(m, n int, l [][2]int) api.Errno {
	if len(l) != max(m, n) {
		return api.ErrShape
	}
	for i, p := range l {
		var may [][2]int
		switch {
		case i == 0:
			may = [][2]int{{0, 0}}
		case m == n:
			may = [][2]int{{l[i-1][0] + 1, l[i-1][1] + 1}}
		case m < n:
			may = [][2]int{{l[i-1][0], l[i-1][1] + 1}, {l[i-1][0] + 1, l[i-1][1] + 1}}
		default:
			may = [][2]int{{l[i-1][0] + 1, l[i-1][1]}, {l[i-1][0] + 1, l[i-1][1] + 1}}
		}
		switch {
		case p[0] < 0 || p[0] >= m || p[1] < 0 || p[1] >= n:
			return api.ErrRange
		case !slices.Contains(may, p):
			return api.ErrOrder
		}
	}
	if p := l[len(l)-1]; p[0]+1 != m || p[1]+1 != n {
		return api.ErrOpen
	}
	return api.OK
}

// allPairs calls a function with all lists of so many pairs of numbers from least to greatest.
func allPairs(size, least, greatest int, call func(l [][2]int)) {
	l := make([][2]int, size)
	var fill func(at int)
	fill = func(at int) {
		if at == size {
			call(l)
			return
		}
		for i := least; i <= greatest; i++ {
			for j := least; j <= greatest; j++ {
				l[at] = [2]int{i, j}
				fill(at + 1)
			}
		}
	}
	fill(0)
}

func TestCheckJoinsOfAllShortLists(t *testing.T) {
	for size, greatest := range []int{0, 3, 3, 3, 2} {
		allPairs(size, -1, greatest, func(l [][2]int) {
			for m := 1; m <= 4; m++ {
				for n := 1; n <= 4; n++ {
					if e := seam.CheckJoins(m, n, l); e != joinError(m, n, l) {
						t.Fatalf("CheckJoins %d %d %v: got %d, want %d", m, n, l, e, joinError(m, n, l))
					}
				}
			}
		})
	}
}

func TestTakeup(t *testing.T) {
	for _, row := range []struct {
		m, n int
		by   api.Ratio
	}{
		{3, 5, api.Ratio{Num: 5, Den: 3}},
		{4, 6, api.Ratio{Num: 3, Den: 2}},
		{6, 4, api.Ratio{Num: 2, Den: 3}},
		{7, 7, api.Ratio{Num: 1, Den: 1}},
		{256, 1, api.Ratio{Num: 1, Den: 256}},
		{1, 256, api.Ratio{Num: 256, Den: 1}},
	} {
		by, e := seam.Takeup(row.m, row.n)
		want(t, "Takeup", by, row.by)
		want(t, "Takeup: error", e, api.OK)
	}
	for _, x := range badNumbers() {
		by, e := seam.Takeup(x.m, x.n)
		want(t, "Takeup", by, api.Ratio{})
		want(t, "Takeup: error", e, api.ErrRange)
	}
}

// TestTakeupByDefinition looks for a greater divisor of both numbers.
func TestTakeupByDefinition(t *testing.T) {
	for _, x := range someNumbers() {
		by, e := seam.Takeup(x.m, x.n)
		want(t, "Takeup: error", e, api.OK)
		if by.Den < 1 || by.Num*x.m != by.Den*x.n {
			t.Errorf("Takeup %d %d: got %v", x.m, x.n, by)
		}
		for d := 2; d <= min(by.Num, by.Den); d++ {
			if by.Num%d == 0 && by.Den%d == 0 {
				t.Errorf("Takeup %d %d: %v is not in lowest terms", x.m, x.n, by)
			}
		}
	}
}

func TestReverse(t *testing.T) {
	for _, row := range []pairing{
		{3, 5, [][2]int{{0, 0}, {0, 1}, {1, 2}, {1, 3}, {2, 4}}, api.OK},
		{3, 5, [][2]int{{0, 0}, {0, 1}, {0, 2}, {1, 3}, {2, 4}}, api.OK},
		{3, 1, [][2]int{{0, 0}, {1, 0}, {2, 0}}, api.OK},
		{2, 2, [][2]int{{0, 0}, {1, 1}}, api.OK},
	} {
		got, e := seam.Reverse(row.m, row.n, row.l)
		want(t, "Reverse", got, fromTheEnd(row))
		want(t, "Reverse: error", e, row.e)
	}
	got, _ := seam.Reverse(3, 5, [][2]int{{0, 0}, {0, 1}, {1, 2}, {1, 3}, {2, 4}})
	want(t, "Reverse", got, [][2]int{{0, 0}, {1, 1}, {1, 2}, {2, 3}, {2, 4}})
	for _, x := range someJoins() {
		got, e := seam.Reverse(x.m, x.n, x.l)
		want(t, "Reverse", got, fromTheEnd(x))
		want(t, "Reverse: error", e, api.OK)
	}
	for _, bad := range badJoins() {
		got, e := seam.Reverse(bad.m, bad.n, bad.l)
		want(t, "Reverse", got, [][2]int(nil))
		want(t, "Reverse: error", e, bad.e)
	}
}

func fromTheEnd(x pairing) [][2]int {
	var l [][2]int
	for i := len(x.l) - 1; i >= 0; i-- {
		l = append(l, [2]int{x.m - x.l[i][0] - 1, x.n - x.l[i][1] - 1})
	}
	return l
}

func TestCompose(t *testing.T) {
	five, back := [][2]int{{0, 0}, {0, 1}, {1, 2}, {1, 3}, {2, 4}}, [][2]int{{0, 0}, {1, 0}, {2, 1}, {3, 1}, {4, 2}}
	other := [][2]int{{0, 0}, {1, 1}, {1, 2}, {2, 3}, {2, 4}}
	for _, row := range []struct {
		a, b, c [][2]int
	}{
		{five, back, [][2]int{{0, 0}, {1, 1}, {2, 2}}},
		{other, back, [][2]int{{0, 0}, {1, 0}, {1, 1}, {2, 1}, {2, 2}}},
		{back, five, [][2]int{{0, 0}, {0, 1}, {1, 0}, {1, 1}, {2, 2}, {2, 3}, {3, 2}, {3, 3}, {4, 4}}},
		{[][2]int{{0, 0}}, [][2]int{{0, 0}}, [][2]int{{0, 0}}},
		{[][2]int{{0, 0}, {1, 0}}, [][2]int{{0, 0}, {0, 1}, {0, 2}}, [][2]int{{0, 0}, {0, 1}, {0, 2}, {1, 0}, {1, 1}, {1, 2}}},
	} {
		c, e := seam.Compose(row.a, row.b)
		want(t, "Compose", c, row.c)
		want(t, "Compose: error", e, api.OK)
	}
}

// composedOf tests all pairs of meshes.
func composedOf(a, b pairing) [][2]int {
	var l [][2]int
	for i := range a.m {
		for k := range b.n {
			for j := range a.n {
				if slices.Contains(a.l, [2]int{i, j}) && slices.Contains(b.l, [2]int{j, k}) {
					l = append(l, [2]int{i, k})
					break
				}
			}
		}
	}
	return l
}

func TestComposeByDefinition(t *testing.T) {
	d := &dice{5}
	for range 300 {
		m, n, o := 1+d.below(12), 1+d.below(12), 1+d.below(12)
		a, b := d.joins(m, n), d.joins(n, o)
		c, e := seam.Compose(a.l, b.l)
		want(t, "Compose", c, composedOf(a, b))
		want(t, "Compose: error", e, api.OK)
	}
}

func TestComposeOfTheLongestJoins(t *testing.T) {
	to, _ := seam.Joins(256, 1)
	from, _ := seam.Joins(1, 256)
	c, e := seam.Compose(to, from)
	want(t, "Compose: number", len(c), 256*256)
	want(t, "Compose: error", e, api.OK)
	for i, pair := range c {
		if pair != [2]int{i / 256, i % 256} {
			t.Fatalf("Compose: the pair %d is %v", i, pair)
		}
	}
	c, _ = seam.Compose(from, to)
	want(t, "Compose", c, [][2]int{{0, 0}})
}

func TestComposeErrors(t *testing.T) {
	good, _ := seam.Joins(2, 3)
	type row struct {
		l [][2]int
		e api.Errno
	}
	rows := []row{
		{nil, api.ErrEmpty},
		{[][2]int{{0, 0}, {256, 1}}, api.ErrRange},
		{[][2]int{{0, 0}, {1, 256}}, api.ErrRange},
		{reachedOnly(257, 257), api.ErrRange},
		{[][2]int{{9, 9}, {1, -1}}, api.ErrRange}, // the last pair decides before the first one
		{[][2]int{{0, 0}, {2, 2}}, api.ErrShape},
		{[][2]int{{0, 0}, {0, 1}, {1, 1}}, api.ErrShape},
		{[][2]int{{0, 0}, {0, 5}, {1, 2}}, api.ErrRange},
		{[][2]int{{0, 0}, {-1, 1}, {1, 2}}, api.ErrRange},
		{[][2]int{{0, 1}, {0, 5}, {1, 2}}, api.ErrOrder},
		{[][2]int{{0, 0}, {1, 0}, {1, 2}}, api.ErrOrder},
		{[][2]int{{0, 0}, {0, 1}, {2, 2}}, api.ErrOrder},
		{make([][2]int, 1000), api.ErrShape},
	}
	for _, n := range extremes() {
		if n < 0 || n > 255 {
			rows = append(rows, row{[][2]int{{n, 0}}, api.ErrRange}, row{[][2]int{{0, n}}, api.ErrRange}, row{[][2]int{{5, 5}, {n, n}}, api.ErrRange})
		}
	}
	for _, bad := range rows {
		for _, pair := range [][2][][2]int{{bad.l, good}, {bad.l, nil}, {bad.l, bad.l}, {good, bad.l}} {
			c, e := seam.Compose(pair[0], pair[1])
			want(t, "Compose", c, [][2]int(nil))
			want(t, "Compose: error", e, bad.e)
		}
	}
	for _, row := range []struct {
		m, n, o, p int
		e          api.Errno
	}{
		{2, 3, 3, 9, api.OK}, {2, 3, 2, 3, api.ErrShape}, {2, 3, 4, 3, api.ErrShape}, {2, 3, 2, 2, api.ErrShape}, {3, 2, 3, 2, api.ErrShape},
	} {
		a, _ := seam.Joins(row.m, row.n)
		b, _ := seam.Joins(row.o, row.p)
		_, e := seam.Compose(a, b)
		want(t, "Compose: error", e, row.e)
	}
}
