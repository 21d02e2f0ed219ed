package seam_test

import (
	"slices"
	"strconv"
	"strings"
	"testing"

	"codend/api"
	"codend/seam"
)

type badRuns struct {
	l []int
	e api.Errno
}

// badRunLists returns lists that are no runs.
func badRunLists() []badRuns {
	rows := []badRuns{
		{nil, api.ErrEmpty},
		{slices.Repeat([]int{1}, 257), api.ErrMany},
		{make([]int, 257), api.ErrMany},
		{[]int{2, 0}, api.ErrRange},
		{[]int{200, 100, 0}, api.ErrRange}, // and too large
		{[]int{200, 100, 257}, api.ErrRange},
		{[]int{1, -1, 3}, api.ErrRange},
		{[]int{200, 57}, api.ErrLarge},
		{[]int{1, 256}, api.ErrLarge},
		{slices.Repeat([]int{2}, 129), api.ErrLarge},
		{append(slices.Repeat([]int{1}, 255), 2), api.ErrLarge},
		{slices.Repeat([]int{256}, 256), api.ErrLarge},
	}
	for _, n := range extremes() {
		if n < 1 || n > 256 {
			rows = append(rows, badRuns{[]int{n}, api.ErrRange}, badRuns{[]int{1, n, n}, api.ErrRange})
		}
	}
	return rows
}

// someRuns returns lists of runs: all short ones of small numbers, and some up to the limit.
func someRuns() [][]int {
	l := [][]int{{256}, {255, 1}, {1, 255}, slices.Repeat([]int{1}, 256), slices.Repeat([]int{2}, 128), append(slices.Repeat([]int{1}, 254), 2)}
	var more func(runs []int)
	more = func(runs []int) {
		if len(runs) > 0 {
			l = append(l, slices.Clone(runs))
		}
		if len(runs) < 6 {
			for run := 1; run <= 3; run++ {
				more(append(slices.Clone(runs), run))
			}
		}
	}
	more(nil)
	d := &dice{3}
	for range 100 {
		var runs []int
		for range 1 + d.below(25) {
			runs = append(runs, 1+d.below(10))
		}
		l = append(l, runs)
	}
	return l
}

func TestRuns(t *testing.T) {
	for _, row := range []struct {
		x    pairing
		runs []int
	}{
		{pairing{3, 5, [][2]int{{0, 0}, {0, 1}, {1, 2}, {1, 3}, {2, 4}}, api.OK}, []int{2, 2, 1}},
		{pairing{5, 3, [][2]int{{0, 0}, {1, 0}, {2, 1}, {3, 1}, {4, 2}}, api.OK}, []int{2, 2, 1}},
		{pairing{3, 5, [][2]int{{0, 0}, {1, 1}, {1, 2}, {1, 3}, {2, 4}}, api.OK}, []int{1, 3, 1}},
		{pairing{2, 2, [][2]int{{0, 0}, {1, 1}}, api.OK}, []int{1, 1}},
		{pairing{1, 4, [][2]int{{0, 0}, {0, 1}, {0, 2}, {0, 3}}, api.OK}, []int{4}},
		{pairing{4, 1, [][2]int{{0, 0}, {1, 0}, {2, 0}, {3, 0}}, api.OK}, []int{4}},
		{pairing{1, 1, [][2]int{{0, 0}}, api.OK}, []int{1}},
	} {
		runs, e := seam.Runs(row.x.m, row.x.n, row.x.l)
		want(t, "Runs", runs, row.runs)
		want(t, "Runs: error", e, api.OK)
	}
	for _, x := range someJoins() {
		runs, e := seam.Runs(x.m, x.n, x.l)
		want(t, "Runs", runs, runsOf(x))
		want(t, "Runs: error", e, api.OK)
	}
	for _, bad := range badJoins() {
		runs, e := seam.Runs(bad.m, bad.n, bad.l)
		want(t, "Runs", runs, []int(nil))
		want(t, "Runs: error", e, bad.e)
	}
}

// runsOf counts the pairs of each mesh of the shorter edge.
func runsOf(x pairing) []int {
	var runs []int
	for mesh := range min(x.m, x.n) {
		count := 0
		for _, pair := range x.l {
			if x.m <= x.n && pair[0] == mesh || x.m > x.n && pair[1] == mesh {
				count++
			}
		}
		runs = append(runs, count)
	}
	return runs
}

func TestFromRuns(t *testing.T) {
	for _, row := range []struct {
		runs  []int
		pairs [][2]int
	}{
		{[]int{2, 2, 1}, [][2]int{{0, 0}, {0, 1}, {1, 2}, {1, 3}, {2, 4}}},
		{[]int{1, 3}, [][2]int{{0, 0}, {1, 1}, {1, 2}, {1, 3}}},
		{[]int{1}, [][2]int{{0, 0}}},
		{[]int{1, 1}, [][2]int{{0, 0}, {1, 1}}},
	} {
		pairs, e := seam.FromRuns(row.runs)
		want(t, "FromRuns", pairs, row.pairs)
		want(t, "FromRuns: error", e, api.OK)
	}
	for _, l := range someRuns() {
		pairs, e := seam.FromRuns(l)
		want(t, "FromRuns: error", e, api.OK)
		want(t, "CheckJoins of the pairs of runs", seam.CheckJoins(len(l), len(pairs), pairs), api.OK)
		runs, _ := seam.Runs(len(l), len(pairs), pairs)
		want(t, "runs of the pairs of runs", runs, l)
	}
	for _, bad := range badRunLists() {
		pairs, e := seam.FromRuns(bad.l)
		want(t, "FromRuns", pairs, [][2]int(nil))
		want(t, "FromRuns: error", e, bad.e)
	}
}

func sumOf(l []int) int {
	sum := 0
	for _, n := range l {
		sum += n
	}
	return sum
}

// isEven compares all parts with each other.
func isEven(l []int) bool {
	for size := 1; size <= len(l); size++ {
		for i := range len(l) - size + 1 {
			for j := range i {
				if d := sumOf(l[i:i+size]) - sumOf(l[j:j+size]); d < -1 || d > 1 {
					return false
				}
			}
		}
	}
	return true
}

func TestEven(t *testing.T) {
	for _, row := range []struct {
		l    []int
		even bool
	}{
		{[]int{2, 2, 1}, true},
		{[]int{3, 1, 1}, false},
		{[]int{1, 1, 3}, false},
		{[]int{2, 1, 1, 2, 2}, false},
		{[]int{2, 1, 1, 2}, true}, // as a ring it would not be
		{[]int{4}, true},
		{[]int{256}, true},
		{[]int{100, 101, 55}, false},
		{slices.Repeat([]int{1}, 256), true},
		{append(slices.Repeat([]int{1}, 254), 2), true},
		{slices.Concat([]int{2}, slices.Repeat([]int{1}, 252), []int{2}), true},
		{slices.Concat([]int{2, 2}, slices.Repeat([]int{1}, 252)), false},
		{slices.Concat([]int{2, 1, 2}, slices.Repeat([]int{1}, 251)), false},
	} {
		even, e := seam.Even(row.l)
		want(t, "Even", even, row.even)
		want(t, "Even: error", e, api.OK)
	}
	for _, l := range someRuns() {
		even, e := seam.Even(l)
		if len(l) < 50 {
			want(t, "Even", even, isEven(l))
		}
		want(t, "Even: error", e, api.OK)
	}
	for _, bad := range badRunLists() {
		even, e := seam.Even(bad.l)
		want(t, "Even", even, false)
		want(t, "Even: error", e, bad.e)
	}
}

func TestRate(t *testing.T) {
	for _, row := range []struct {
		m, n int
		s    string
	}{
		{3, 5, "2x2 1x1"},
		{5, 3, "2x2 1x1"},
		{4, 4, "4x1"},
		{1, 1, "1x1"},
		{4, 7, "3x2 1x1"},
		{5, 7, "1x2 1x1 1x2 2x1"},
		{7, 5, "1x2 1x1 1x2 2x1"},
		{1, 256, "1x256"},
		{256, 1, "1x256"},
		{256, 256, "256x1"},
		{100, 10, "10x10"},
	} {
		s, e := seam.Rate(row.m, row.n)
		want(t, "Rate", s, row.s)
		want(t, "Rate: error", e, api.OK)
	}
	for _, x := range badNumbers() {
		s, e := seam.Rate(x.m, x.n)
		want(t, "Rate", s, "")
		want(t, "Rate: error", e, api.ErrRange)
	}
}

// printed returns the string of runs: a word is begun, or counted on, at each run.
func printed(l []int) string {
	var sizes, runs []int
	for i, run := range l {
		if i == 0 || l[i-1] != run {
			sizes, runs = append(sizes, 0), append(runs, run)
		}
		sizes[len(sizes)-1]++
	}
	var words []string
	for i, size := range sizes {
		words = append(words, strconv.Itoa(size)+"x"+strconv.Itoa(runs[i]))
	}
	return strings.Join(words, " ")
}

func TestRatesByDefinition(t *testing.T) {
	for _, x := range someNumbers() {
		pairs, _ := seam.Joins(x.m, x.n)
		runs, _ := seam.Runs(x.m, x.n, pairs)
		s, _ := seam.Rate(x.m, x.n)
		want(t, "Rate", s, printed(runs))
		got, e := seam.ParseRate(s)
		want(t, "ParseRate of a rate", got, runs)
		want(t, "ParseRate of a rate: error", e, api.OK)
	}
}

func TestParseRate(t *testing.T) {
	for _, row := range []struct {
		s    string
		runs []int
	}{
		{"2x2 1x1", []int{2, 2, 1}},
		{"1x2 1x1 1x2", []int{2, 1, 2}},
		{"1x10 10x1", []int{10, 1, 1, 1, 1, 1, 1, 1, 1, 1, 1}},
		{"1x256", []int{256}},
		{"256x1", slices.Repeat([]int{1}, 256)},
		{"254x1 1x2", append(slices.Repeat([]int{1}, 254), 2)},
	} {
		runs, e := seam.ParseRate(row.s)
		want(t, "ParseRate", runs, row.runs)
		want(t, "ParseRate: error", e, api.OK)
	}
	for _, l := range someRuns() {
		runs, e := seam.ParseRate(printed(l))
		want(t, "ParseRate", runs, l)
		want(t, "ParseRate: error", e, api.OK)
	}
}

func TestParseRateErrors(t *testing.T) {
	long := "1x1" + strings.Repeat(" 1x2 1x1", 511) + " 1x2" // 1024 words, 4095 bytes
	rows := map[string]api.Errno{
		strings.Repeat("x", 4097): api.ErrLong,
		strings.Repeat("x", 4096): api.ErrSyntax,
		long:                      api.ErrMany,
		long + "1":                api.ErrMany,
		long + "11":               api.ErrLong,
	}
	add := func(e api.Errno, l ...string) {
		for _, s := range l {
			rows[s] = e
		}
	}
	add(api.ErrSyntax, "", " ", "x", "1", "12", "1x", "x1", "1x2x3", "1xx2", "1x2  1x1", " 1x2", "1x2 ", "1x2\n", "\n1x2", "1x2\n1x1", "1x2\t1x1", "1x2,1x1", "1 x2", "1x 2", "1x1 2", "1x1 x", "1x2 1")
	add(api.ErrSyntax, "+1x2", "-1x2", "1x-2", "1x+2", "01x2", "1x02", "00x1", "0x1", "1x0", "0x0", "1x1 0x2", "1x1 1x0", "1X2", "1\u00d72", "\uff11x1", "1x\u0661", "1x\xff", "1\x00x1", "1_0x1", "0x1x1", "1x1a", "ax1", "1.x1", "1e2x1")
	add(api.ErrSyntax, "1x1000000000", "1000000000x1", "9223372036854775808x1", "1x18446744073709551617", "18446744073709551617x1", "1x"+strings.Repeat("9", 4000), strings.Repeat("9", 4000)+"x1")
	add(api.ErrSyntax, "1x1 1x1", "1x1 2x1", "2x2 1x1 1x1 1x2", "1x2 1x1 3x1", "1x999999999 1x999999999")
	add(api.ErrSyntax, "300x1 1x", "1x300 1x2 ", "2x200 1x200") // before all others
	add(api.ErrMany, "257x1", "256x1 1x2", "1x2 256x1", "300x300", "999999999x999999999", "1x300 256x1", "2x200 255x1", "128x1 128x2 1x1", "999999999x1"+strings.Repeat(" 999999999x2 999999999x1", 150))
	add(api.ErrRange, "1x257", "1x300", "1x999999999", "256x257", "1x1 1x257", "1x257 1x1", "2x200 1x257", "1x257 2x200", "1x256 1x257")
	add(api.ErrLarge, "1x256 1x1", "1x1 1x256", "2x129", "129x2", "255x1 1x2", "2x200", "256x256", "1x200 1x57", "256x2")
	for s, wanted := range rows {
		runs, e := seam.ParseRate(s)
		want(t, "ParseRate of "+s, runs, []int(nil))
		want(t, "ParseRate: error of "+s, e, wanted)
	}
}
