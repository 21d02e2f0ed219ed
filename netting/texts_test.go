package netting_test

import (
	"strconv"
	"strings"
	"testing"

	"codend/api"
	"codend/netting"
)

func TestPrint(t *testing.T) {
	for _, row := range []struct {
		l []api.Bar
		s string
	}{
		{nil, ""},
		{exampleSheet(), "0: 0/ 2\\ 2/ 4\\\n1: 1\\ 1/ 3\\ 3/\n"},
		{list(bar(-3, -1, -1)), "-1: -3\\\n"},
		{list(bar(0, 0, -1), bar(0, 0, 1), bar(10, 2, 1)), "0: 0\\ 0/\n2: 10/\n"},
		{list(bar(-100000, -100000, 1), bar(100000, 99998, -1)), "-100000: -100000/\n99998: 100000\\\n"},
	} {
		s, e := netting.Print(row.l)
		want(t, "Print", s, row.s)
		want(t, "Print: error", e, api.OK)
	}
	for _, bad := range badNets() {
		s, e := netting.Print(bad.l)
		want(t, "Print", s, "")
		want(t, "Print: error", e, bad.e)
	}
}

// longNet returns a net whose string has exactly MaxBytes bytes: 4096 lines of 16.
func longNet() []api.Bar {
	var l []api.Bar
	for i := range api.MaxBars {
		y := -99999 + i
		l = append(l, bar(-20000-(i+1)%2, y, 1))
	}
	return l
}

func TestTextsOfTheGreatestLength(t *testing.T) {
	l := longNet()
	s, e := netting.Print(l)
	want(t, "Print: error", e, api.OK)
	want(t, "Print: length", len(s), netting.MaxBytes)
	parsed, index, e := netting.Parse(s)
	want(t, "Parse", parsed, l)
	want(t, "Parse: index", index, 0)
	want(t, "Parse: error", e, api.OK)

	l[1].X = -100000
	want(t, "CheckNet", netting.CheckNet(l), api.OK)
	s, e = netting.Print(l)
	want(t, "Print", s, "")
	want(t, "Print: error", e, api.ErrLong)

	parsed, index, e = netting.Parse("x\n" + strings.Repeat("\n", netting.MaxBytes-1))
	want(t, "Parse", parsed, []api.Bar(nil))
	want(t, "Parse: index", index, 0)
	want(t, "Parse: error", e, api.ErrLong)
}

func TestParse(t *testing.T) {
	for _, row := range []struct {
		s string
		l []api.Bar
	}{
		{"", nil},
		{"0: 0/ 2\\ 2/ 4\\\n1: 1\\ 1/ 3\\ 3/\n", exampleSheet()},
		{"-1: -3\\\n", list(bar(-3, -1, -1))},
		{"0: 0\\ 0/\n2: 10/\n", list(bar(0, 0, -1), bar(0, 0, 1), bar(10, 2, 1))},
		{"-100000: -100000/\n99999: 99999/\n", list(bar(-100000, -100000, 1), bar(99999, 99999, 1))},
		{"0: 100000\\\n", list(bar(100000, 0, -1))},
	} {
		l, index, e := netting.Parse(row.s)
		want(t, "Parse "+row.s, l, row.l)
		want(t, "Parse: index", index, 0)
		want(t, "Parse: error", e, api.OK)
	}
}

func TestParseOfWrongForms(t *testing.T) {
	for _, line := range []string{
		"\n", " \n", "0\n", ":\n", "0:\n", "0: \n", "0:0/\n", "0:  0/\n", " 0: 0/\n", "0 : 0/\n", "0: 0/ \n", "0: 0/  2/\n", "0: 0/2/\n", "0:\t0/\n", "0: 0/\r\n", "0:x 0/\n",
		"0: 0\n", "0: /\n", "0: -/\n", "0: 0//\n", "0: 0/\\\n", "0: 0|\n", "0: /0\n", "0: 0 /\n", "0: 0/,\n", "0:: 0/\n", "0: 0: 0/\n", ": 0/\n", "-: 0/\n",
		"00: 0/\n", "01: 1/\n", "-0: 0/\n", "+0: 0/\n", "-01: 1/\n", "--1: 1/\n", "x: 0/\n", "1x: 1/\n", "1.0: 1/\n", "1_0: 0/\n", "0x1: 1/\n", "1234567: 0/\n", "-1234567: 0/\n", "1000000: 0/\n", "-1000000: 0/\n",
		"0: 00/\n", "0: 02/\n", "0: -0/\n", "0: +2/\n", "0: -02/\n", "0: --2/\n", "0: x/\n", "0: 2x/\n", "0: 2_0/\n", "0: 1234567/\n", "0: -1234567/\n", "0: 1000000/\n",
		"0: 99999999999999999999/\n", "9223372036854775808: 0/\n", "0: \u0660/\n", "0: 0\u2215\n",
		"0: 1/ x/\n", "0: 2/ 0/ x\n", "999999: 999999/ 0\n",
	} {
		for _, before := range []string{"", "-2: 0/\n", "-4: 0/ 2\\\n-2: 0/\n"} {
			for _, behind := range []string{"", "5: 1/\n", "5: 0/\n"} {
				l, index, e := netting.Parse(before + line + behind)
				want(t, "Parse "+strconv.Quote(line), l, []api.Bar(nil))
				want(t, "Parse: index of "+strconv.Quote(line), index, strings.Count(before, "\n"))
				want(t, "Parse: error of "+strconv.Quote(line), e, api.ErrSyntax)
			}
		}
	}
}

func TestParseOfWrongBars(t *testing.T) {
	for _, row := range []struct {
		s     string
		index int
		e     api.Errno
	}{
		{"0: 0/", 0, api.ErrSyntax},
		{"0: 1/", 0, api.ErrSyntax},
		{"0: 0/\n2: 0/", 1, api.ErrSyntax},
		{"0: 0/\n0: 0/", 1, api.ErrSyntax},
		{"0: 1/\n2: 0/", 0, api.ErrLattice},
		{"0: 0/\nx", 1, api.ErrSyntax},
		{"0: 1/\n", 0, api.ErrLattice},
		{"-1: 0/\n", 0, api.ErrLattice},
		{"0: 0/ 2/\n1: 1/ 2/\n", 1, api.ErrLattice},
		{"0: 1/\nx\n", 0, api.ErrLattice},
		{"0: 100001/\n", 0, api.ErrRange},
		{"0: 999999/\n", 0, api.ErrRange},
		{"999999: 0/\n", 0, api.ErrRange},
		{"-999999: -999999/\n", 0, api.ErrRange},
		{"100000: 0/\n", 0, api.ErrRange},
		{"0: 100000/\n", 0, api.ErrRange},
		{"0: -100000\\\n", 0, api.ErrRange},
		{"0: 2/ 0/\n", 0, api.ErrOrder},
		{"0: 2/ 2/\n", 0, api.ErrOrder},
		{"0: 2/ 2\\\n", 0, api.ErrOrder},
		{"0: 0/\n0: 2/\n", 1, api.ErrOrder},
		{"0: 0/\n0: 0/\n", 1, api.ErrOrder},
		{"0: 0\\\n0: 0/\n", 1, api.ErrOrder},
		{"1: 1/\n0: 2/\n", 1, api.ErrOrder},
		{"0: 0/\n1: 1/\n0: 2/\n", 2, api.ErrOrder},
		{"2: 0/\n0: 1/\n", 1, api.ErrLattice},
		{"0: 2/ 1/\n", 0, api.ErrLattice},
		{"0: 2/ 0/ 1/\n", 0, api.ErrOrder},
		{"0: 1/ 0/\n", 0, api.ErrLattice},
	} {
		l, index, e := netting.Parse(row.s)
		want(t, "Parse "+strconv.Quote(row.s), l, []api.Bar(nil))
		want(t, "Parse: index of "+strconv.Quote(row.s), index, row.index)
		want(t, "Parse: error of "+strconv.Quote(row.s), e, row.e)
	}
}

func TestParseOfTooManyBars(t *testing.T) {
	var full strings.Builder
	full.WriteString("0:")
	for x := 0; x < api.MaxBars; x += 2 {
		full.WriteString(" " + strconv.Itoa(x) + "\\ " + strconv.Itoa(x) + "/")
	}
	l, _, e := netting.Parse(full.String() + "\n")
	want(t, "Parse of the most bars", len(l), api.MaxBars)
	want(t, "Parse of the most bars: error", e, api.OK)
	for _, row := range []struct {
		more  string
		index int
		e     api.Errno
	}{
		{" 4096/\n", 0, api.ErrMany},
		{" 4095/\n", 0, api.ErrLattice},
		{" 4094/\n", 0, api.ErrOrder},
		{" 4096/ x\n", 0, api.ErrSyntax},
		{"\n1: 1/\n", 1, api.ErrMany},
		{"\n1: 0/\n", 1, api.ErrLattice},
		{"\n0: 4098/\n", 1, api.ErrOrder},
		{"\n1: 1/ 0/\n", 1, api.ErrMany},
		{"\n1: 1/", 1, api.ErrSyntax},
	} {
		l, index, e := netting.Parse(full.String() + row.more)
		want(t, "Parse of too many bars", l, []api.Bar(nil))
		want(t, "Parse of too many bars: index", index, row.index)
		want(t, "Parse of too many bars: error", e, row.e)
	}
}
