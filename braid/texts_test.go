package braid_test

import (
	"fmt"
	"regexp"
	"slices"
	"strconv"
	"strings"
	"testing"

	"codend/api"
	"codend/braid"
)

// textOf writes a program as the chapter says.
func textOf(l ...braid.Course) string {
	s := ""
	for _, c := range l {
		s += fmt.Sprintf("at %d %d %s %s %d\n", c.At.X, c.At.Y, map[bool]string{true: "right", false: "left"}[c.Right], map[bool]string{true: "up", false: "down"}[c.Up], c.Bars)
	}
	return s
}

func wantParse(t *testing.T, s string, l []braid.Course, index int, e api.Errno) {
	t.Helper()
	got, gotIndex, gotError := braid.Parse(s)
	want(t, fmt.Sprintf("Parse of %.80q", s), got, l)
	want(t, fmt.Sprintf("Parse of %.80q: index and error", s), []int{gotIndex, int(gotError)}, []int{index, int(e)})
}

func TestPrintAndParse(t *testing.T) {
	for _, x := range []struct {
		l []braid.Course
		s string
	}{
		{zigzag(), "at 0 0 right up 3\nat 3 1 left up 3\n"},
		{nil, ""},
		{program(leftDown(-99, 100000, 512)), ""},
		{program(leftDown(-98, 100000, 512)), "at -98 100000 left down 512\n"},
		{program(rightDown(-100000, -99998, 10), leftDown(10, -20, 1)), "at -100000 -99998 right down 10\nat 10 -20 left down 1\n"},
	} {
		s, e := braid.Print(x.l)
		want(t, "Print", s, x.s)
		if x.s == "" && len(x.l) > 0 {
			want(t, "Print: error", e, api.ErrLattice)
			continue
		}
		want(t, "Print: error", e, api.OK)
		wantParse(t, x.s, x.l, 0, api.OK)
	}
}

// TestParseForms has lines that have not the form of one, alone and behind others.
func TestParseForms(t *testing.T) {
	for _, line := range []string{
		"", " ", "at", "at ", "at 0", "at 0 0", "at 0 0 right", "at 0 0 right up", "at 0 0 right up ", "at 0 0 right up 3 ", " at 0 0 right up 3", "at  0 0 right up 3", "at 0  0 right up 3", "at 0 0  right up 3", "at 0 0 right  up 3", "at 0 0 right up  3",
		"at 0 0 right up 3 3", "at 0 0 0 right up 3", "at 0 right up 3", "at 0 0 up 3", "at 0 0 right 3", "0 0 right up 3", "at 0 0 up right 3", "at at 0 0 right up 3", "at right up 0 0 3", "3 at 0 0 right up",
		"At 0 0 right up 3", "AT 0 0 right up 3", "a 0 0 right up 3", "att 0 0 right up 3", "ta 0 0 right up 3", "at\t0 0 right up 3", "at,0,0,right,up,3",
		"at 0 0 Right up 3", "at 0 0 righ up 3", "at 0 0 rights up 3", "at 0 0 true up 3", "at 0 0 1 up 3", "at 0 0 up up 3", "at 0 0 right right 3", "at 0 0 left left 3", "at 0 0 right Up 3", "at 0 0 right u 3", "at 0 0 right ups 3", "at 0 0 right upright 3", "at 0 0 left Down 3",
		"at 0 0 right up 3\r", "at 0 0 right up 3\x00", "at 0 0 right up 3;", "at 0 0 right up three", "at 0 0 \xff up 3",
	} {
		wantParse(t, line+"\n", nil, 0, api.ErrSyntax)
		wantParse(t, textOf(zigzag()...)+line+"\n", nil, 2, api.ErrSyntax)
		wantParse(t, line+"\n"+textOf(zigzag()...), nil, 0, api.ErrSyntax)
	}
	for _, n := range []string{"", "-", "--1", "-0", "+0", "+2", "00", "02", "-02", "-00", "2x", "x", "0x2", "1_0", "2.", "1e1", "1000000000", "-1000000000", "0000000002", "9999999999", "18446744073709551618", "-18446744073709551618", "99999999999999999999999999", "\uff12", "\u0662", "2\u0662", "2-", "\x002", "1/", "1:", "/", ":"} {
		for _, line := range []string{"at " + n + " 0 right up 3\n", "at 0 " + n + " left up 3\n", "at 0 0 right down " + n + "\n", "at 1 " + n + " left up 0\n"} {
			wantParse(t, line, nil, 0, api.ErrSyntax)
			wantParse(t, textOf(zigzag()...)+line, nil, 2, api.ErrSyntax)
		}
	}
}

func TestParseWithoutLineFeed(t *testing.T) {
	s := textOf(zigzag()...)
	for cut := range len(s) {
		index := strings.Count(s[:cut], "\n")
		if cut == 0 || s[cut-1] == '\n' {
			wantParse(t, s[:cut], zigzag()[:index], 0, api.OK)
			continue
		}
		wantParse(t, s[:cut], nil, index, api.ErrSyntax)
	}
	wantParse(t, s+s[:len(s)-1], nil, 2, api.ErrOrder)
}

// TestParseErrors has lines with the form of one, and with the errors of a program.
func TestParseErrors(t *testing.T) {
	for _, x := range judgedPrograms() {
		// The index is that of the first course with which the program has an error.
		index := 0
		for index < len(x.x) && braid.CheckProgram(x.x[:index+1]) == api.OK {
			index++
		}
		e := api.OK
		if index < len(x.x) {
			e = braid.CheckProgram(x.x[:index+1])
			for _, n := range []int{x.x[index].At.X, x.x[index].At.Y, x.x[index].Bars} {
				if inRange(n, -999999999, 999999999) != api.OK {
					e = api.ErrSyntax
				}
			}
		}
		if e != api.OK {
			wantParse(t, textOf(x.x...), nil, index, e)
			continue
		}
		wantParse(t, textOf(x.x...), x.x, 0, api.OK)
	}
	for _, x := range []struct {
		s     string
		index int
		e     api.Errno
	}{
		{"at 999999999 0 right up 1\n", 0, api.ErrRange},
		{"at 0 -999999999 right up 1\n", 0, api.ErrRange},
		{"at 0 0 right up 999999999\n", 0, api.ErrRange},
		{"at 0 0 right up -999999999\n", 0, api.ErrRange},
		{"at 0 0 right up -1\n", 0, api.ErrRange},
		{"at 1 0 right up 0\n", 0, api.ErrLattice},
		{"at 1 0 right up 0\nx", 0, api.ErrLattice},
		{"at 0 0 right up 1\nx\nat 1 0 right up 1\n", 1, api.ErrSyntax},
	} {
		wantParse(t, x.s, nil, x.index, x.e)
	}
}

func TestParseManyLines(t *testing.T) {
	s := textOf(tower(256, 1)...)
	wantParse(t, s, tower(256, 1), 0, api.OK)
	for _, line := range []string{"at 0 256 right up 1\n", "at 1 0 right up 0\n", "at 0 0 right up 1\n", "at 0 300 right up 513\n"} {
		wantParse(t, s+line, nil, 256, api.ErrMany)
		wantParse(t, s+line+"x", nil, 256, api.ErrMany)
	}
	for _, line := range []string{"\n", "x", "at 0 256 right up 1", "at 0 256 right up 01\n"} {
		wantParse(t, s+line, nil, 256, api.ErrSyntax)
	}
	large := textOf(tower(8, 512)...)
	wantParse(t, large, tower(8, 512), 0, api.OK)
	wantParse(t, large+"at 0 8 right up 1\n", nil, 8, api.ErrLarge)
	wantParse(t, large+"at 0 8 right up -1\n", nil, 8, api.ErrRange)
}

func TestParseLongStrings(t *testing.T) {
	s := textOf(zigzag()...)
	for _, size := range []int{999999, 1000000} {
		wantParse(t, strings.Repeat("x", size), nil, 0, api.ErrSyntax)
		wantParse(t, s+strings.Repeat(" ", size-len(s)), nil, 2, api.ErrSyntax)
		wantParse(t, s+strings.Repeat("\n", size-len(s)), nil, 2, api.ErrSyntax)
		wantParse(t, "at 0 0 right up "+strings.Repeat("9", size-17)+"\n", nil, 0, api.ErrSyntax)
	}
	for _, size := range []int{1000001, 2000000} {
		wantParse(t, strings.Repeat("x", size), nil, 0, api.ErrLong)
		wantParse(t, s+strings.Repeat("\n", size-len(s)), nil, 0, api.ErrLong)
		wantParse(t, textOf(tower(257, 1)...)+strings.Repeat(" ", size), nil, 0, api.ErrLong)
	}
}

const number = `(0|-?[1-9][0-9]{0,8})`

var pattern = regexp.MustCompile(`^at ` + number + ` ` + number + ` (right|left) (up|down) ` + number + `\n$`)

// parsed reads a string line by line with a pattern.
func parsed(s string) ([]braid.Course, int, api.Errno) {
	lines := strings.SplitAfter(s, "\n")
	if lines[len(lines)-1] == "" {
		lines = lines[:len(lines)-1]
	}
	var l []braid.Course
	for i, line := range lines {
		m := pattern.FindStringSubmatch(line)
		if m == nil {
			return nil, i, api.ErrSyntax
		}
		x, _ := strconv.Atoi(m[1])
		y, _ := strconv.Atoi(m[2])
		n, _ := strconv.Atoi(m[5])
		l = append(l, braid.Course{At: knot(x, y), Right: m[3] == "right", Up: m[4] == "up", Bars: n})
		if e := braid.CheckProgram(l); e != api.OK {
			return nil, i, e
		}
	}
	return l, 0, api.OK
}

// TestParseOfChangedTexts changes a few bytes of the strings of programs.
func TestParseOfChangedTexts(t *testing.T) {
	bytes := []string{" ", "\n", "0", "1", "2", "9", "-", "x", "at ", "right", "left", "up", "down", "at 0 0 right up 1\n", "\xff", "", "", ""}
	count := map[api.Errno]int{}
	programs(29, 4000, func(d *dice, l []braid.Course) {
		s := textOf(l...)
		printed, e := braid.Print(l)
		want(t, "Print", printed, s)
		want(t, "Print: error", e, api.OK)
		wantParse(t, s, l, 0, api.OK)
		for range 4 {
			changed := s
			for range 1 + d.below(2) {
				from := d.below(len(changed) + 1)
				to := min(len(changed), from+d.below(3))
				changed = changed[:from] + bytes[d.below(len(bytes))] + changed[to:]
			}
			if d.flip() {
				i, j := strings.Index(changed, "\n")+1, strings.LastIndex(changed, "\n")+1
				changed = changed[j:] + changed[i:j] + changed[:i]
			}
			wanted, index, e := parsed(changed)
			wantParse(t, changed, wanted, index, e)
			count[e]++
		}
	})
	for _, e := range []api.Errno{api.OK, api.ErrSyntax, api.ErrRange, api.ErrLattice, api.ErrOrder, api.ErrTwice} {
		if count[e] < 20 {
			t.Errorf("only %d strings with the error %d", count[e], e)
		}
	}
}

// TestAllLinesOfShortForm tries all words at all places.
func TestAllLinesOfShortForm(t *testing.T) {
	words := []string{"at", "2", "-2", "right", "left", "up", "down"}
	good := 0
	for key := range 7 * 7 * 7 * 7 * 7 * 7 {
		var l []string
		for ; len(l) < 6; key /= 7 {
			l = append(l, words[key%7])
		}
		s := strings.Join(l, " ") + "\n"
		wanted, index, e := parsed(s)
		got, gotIndex, gotError := braid.Parse(s)
		if !slices.Equal(got, wanted) || gotIndex != index || gotError != e {
			t.Errorf("Parse of %q: %v, %d, %d", s, got, gotIndex, gotError)
		}
		good += len(got)
	}
	want(t, "how many lines are courses", good, 16)
}
