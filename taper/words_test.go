package taper_test

import (
	"math"
	"strconv"
	"strings"
	"testing"

	"codend/api"
	"codend/taper"
)

func TestCheckWord(t *testing.T) {
	for _, w := range append(someWords(), strings.Repeat("T", 64), strings.Repeat("NB", 32)) {
		want(t, "CheckWord "+w, taper.CheckWord(w), api.OK)
	}
	for _, bad := range badWords() {
		want(t, "CheckWord "+bad.w, taper.CheckWord(bad.w), bad.e)
	}
}

func TestCheckWordOfEachByte(t *testing.T) {
	for c := range 256 {
		s := string([]byte{byte(c)})
		wanted := api.ErrForm
		if strings.Contains("NBT", s) {
			wanted = api.OK
		}
		want(t, "CheckWord of the byte "+strconv.Itoa(c), taper.CheckWord(s), wanted)
		want(t, "CheckWord of N and the byte "+strconv.Itoa(c), taper.CheckWord("N"+s), wanted)
	}
}

func TestPrint(t *testing.T) {
	for w, s := range map[string]string{
		"NBB": "1N2B", "N": "1N", "B": "1B", "T": "1T", "NBT": "1N1B1T", "TTTBNN": "3T1B2N", "NBBN": "1N2B1N",
		strings.Repeat("B", 9):                                   "9B",
		strings.Repeat("B", 10):                                  "10B",
		strings.Repeat("T", 64):                                  "64T",
		"N" + strings.Repeat("B", 63):                            "1N63B",
		strings.Repeat("NB", 32):                                 strings.Repeat("1N1B", 32),
		strings.Repeat("N", 20) + strings.Repeat("TT", 11):       "20N22T",
		strings.Repeat("BBB", 7) + "N" + strings.Repeat("B", 12): "21B1N12B",
	} {
		got, e := taper.Print(w)
		want(t, "Print "+w, got, s)
		want(t, "Print: error", e, api.OK)
	}
	for _, bad := range badWords() {
		got, e := taper.Print(bad.w)
		want(t, "Print "+bad.w, got, "")
		want(t, "Print: error", e, bad.e)
	}
}

func TestParse(t *testing.T) {
	for s, w := range map[string]string{
		"1N2B": "NBB", "1N2B1B": "NBBB", "1N": "N", "3T1B2N": "TTTBNN", "1N1N1N": "NNN", "2B3B": "BBBBB",
		"10B":                            strings.Repeat("B", 10),
		"64T":                            strings.Repeat("T", 64),
		"63T1N":                          strings.Repeat("T", 63) + "N",
		"32N32N":                         strings.Repeat("N", 64),
		strings.Repeat("1N", 64):         strings.Repeat("N", 64),
		strings.Repeat("1N1B", 32):       strings.Repeat("NB", 32),
		"9N9N9N9N9N9N9N1B":               strings.Repeat("N", 63) + "B",
		"40N" + strings.Repeat("2B", 12): strings.Repeat("N", 40) + strings.Repeat("B", 24),
	} {
		got, index, e := taper.Parse(s)
		want(t, "Parse "+s, got, w)
		want(t, "Parse: index", index, 0)
		want(t, "Parse: error", e, api.OK)
	}
}

func TestParseOfWrongRuns(t *testing.T) {
	for _, run := range []string{
		"3", "12", "123", "N", "B", "0", "0N", "00N", "01N", "1", "1X", "1n", "1b", "100N", "999N", "064N", "1 N", " 1N", "-1N", "+1N", "1.N", "1-N", "1\x00", "\x00N", "1\xff", "\xff",
		"1é", "\u0661N", "1\u0661N", "\uff11N", "1\u0392", "NN", "1:N", "1/N", ":N", "/N", "12:", "1_N",
	} {
		for _, before := range []string{"", "1N", "12B", "1N3T1B", "64N", strings.Repeat("1T", 64)} {
			s := before + run
			w, index, e := taper.Parse(s)
			want(t, "Parse "+strconv.Quote(s), w, "")
			want(t, "Parse: index of "+strconv.Quote(s), index, len(before))
			want(t, "Parse: error of "+strconv.Quote(s), e, api.ErrSyntax)
		}
	}
}

func TestParseErrors(t *testing.T) {
	for _, row := range []struct {
		s     string
		index int
		e     api.Errno
	}{
		{"", 0, api.ErrEmpty},
		{"1N0B", 2, api.ErrSyntax},
		{"1N0B0T", 2, api.ErrSyntax},
		{"1NN", 2, api.ErrSyntax},
		{"65N", 0, api.ErrLong},
		{"99B", 0, api.ErrLong},
		{"64N1N", 3, api.ErrLong},
		{"64N1B", 3, api.ErrLong},
		{"1N64B", 2, api.ErrLong},
		{"1N63B1T", 5, api.ErrLong},
		{"32N33N", 3, api.ErrLong},
		{"64N1B1X", 3, api.ErrLong},
		{"64N1X65N", 3, api.ErrSyntax},
		{"65N1X", 0, api.ErrLong},
		{"65X", 0, api.ErrSyntax},
		{"65", 0, api.ErrSyntax},
		{strings.Repeat("1N", 65), 128, api.ErrLong},
		{strings.Repeat("1N", 2048), 128, api.ErrLong},
		{strings.Repeat("1N", 2048) + "1", 0, api.ErrLong},
		{strings.Repeat("x", 4096), 0, api.ErrSyntax},
		{strings.Repeat("x", 4097), 0, api.ErrLong},
		{"1N" + strings.Repeat("x", 4094), 2, api.ErrSyntax},
		{"1N" + strings.Repeat("x", 4095), 0, api.ErrLong},
	} {
		w, index, e := taper.Parse(row.s)
		want(t, "Parse "+row.s, w, "")
		want(t, "Parse: index of "+row.s, index, row.index)
		want(t, "Parse: error of "+row.s, e, row.e)
	}
}

// TestParseOfEachCount holds all counts and letters against their word.
func TestParseOfEachCount(t *testing.T) {
	for count := range 130 {
		for _, letter := range []string{"N", "B", "T"} {
			w, index, e := taper.Parse("2N" + strconv.Itoa(count) + letter)
			switch {
			case count == 0 || count > 99:
				want(t, "Parse: error", e, api.ErrSyntax)
			case count > 62:
				want(t, "Parse: error", e, api.ErrLong)
			default:
				want(t, "Parse", w, "NN"+strings.Repeat(letter, count))
				want(t, "Parse: index and error", []int{index, int(e)}, []int{0, 0})
				continue
			}
			want(t, "Parse", w, "")
			want(t, "Parse: index", index, 2)
		}
	}
}

func TestVector(t *testing.T) {
	for w, v := range map[string][2]int{
		"NBB": {2, 4}, "N": {0, 2}, "B": {1, 1}, "T": {2, 0}, "TB": {3, 1}, "NT": {2, 2}, "TTN": {4, 2},
		strings.Repeat("N", 64): {0, 128}, strings.Repeat("B", 64): {64, 64}, strings.Repeat("T", 64): {128, 0},
	} {
		got, e := taper.Vector(w)
		want(t, "Vector "+w, got, v)
		want(t, "Vector: error", e, api.OK)
	}
	for _, w := range someWords() {
		n, b, m := strings.Count(w, "N"), strings.Count(w, "B"), strings.Count(w, "T")
		got, _ := taper.Vector(w)
		want(t, "Vector "+w, got, [2]int{b + 2*m, 2*n + b})
	}
	for _, bad := range badWords() {
		got, e := taper.Vector(bad.w)
		want(t, "Vector "+bad.w, got, [2]int{})
		want(t, "Vector: error", e, bad.e)
	}
}

func TestRate(t *testing.T) {
	for w, r := range map[string]api.Ratio{
		"NBB": ratio(1, 2), "N": ratio(0, 1), "NNN": ratio(0, 1), "B": ratio(1, 1), "BBB": ratio(1, 1), "NT": ratio(1, 1), "NB": ratio(1, 3), "TB": ratio(3, 1), "TBB": ratio(2, 1), "TNB": ratio(1, 1), "TTN": ratio(2, 1),
		strings.Repeat("T", 63) + "B": ratio(127, 1), strings.Repeat("N", 63) + "B": ratio(1, 127), "TTTN": ratio(3, 1), strings.Repeat("NB", 32): ratio(1, 3),
	} {
		got, e := taper.Rate(w)
		want(t, "Rate "+w, got, r)
		want(t, "Rate: error", e, api.OK)
	}
	for _, w := range someWords() {
		v, _ := taper.Vector(w)
		got, e := taper.Rate(w)
		if v[1] == 0 {
			want(t, "Rate "+w, got, api.Ratio{})
			want(t, "Rate: error", e, api.ErrZero)
			continue
		}
		d := divisor(v[0], v[1])
		want(t, "Rate "+w, got, ratio(v[0]/d, v[1]/d))
		want(t, "Rate: error", e, api.OK)
	}
	for _, bad := range append(badWords(), badWord{"T", api.ErrZero}, badWord{strings.Repeat("T", 64), api.ErrZero}) {
		got, e := taper.Rate(bad.w)
		want(t, "Rate "+bad.w, got, api.Ratio{})
		want(t, "Rate: error", e, bad.e)
	}
}

func TestCompare(t *testing.T) {
	for _, row := range []struct {
		a, b  string
		order int
	}{
		{"NB", "NBB", -1}, {"NBB", "NB", 1}, {"NBB", "NBBNBB", 0}, {"NT", "B", 0}, {"BBB", "TN", 0}, {"N", "NNN", 0}, {"N", "B", -1}, {"TB", "B", 1}, {"BN", "NB", 0},
		{"NBB", "NBBB", -1}, {"TBB", "TB", -1}, {strings.Repeat("B", 63) + "N", strings.Repeat("B", 62) + "N", 1}, {strings.Repeat("T", 63) + "B", strings.Repeat("T", 62) + "B", 1},
	} {
		order, e := taper.Compare(row.a, row.b)
		want(t, "Compare "+row.a+" "+row.b, order, row.order)
		want(t, "Compare: error", e, api.OK)
	}
	words := shortWords(4)
	for _, a := range words {
		for _, b := range words {
			v, _ := taper.Vector(a)
			w, _ := taper.Vector(b)
			if v[1] == 0 || w[1] == 0 {
				continue
			}
			// These quotients are far enough from one another for floats.
			d := float64(v[0])/float64(v[1]) - float64(w[0])/float64(w[1])
			wanted := 0
			if math.Abs(d) > 1e-9 {
				wanted = int(math.Copysign(1, d))
			}
			order, e := taper.Compare(a, b)
			want(t, "Compare "+a+" "+b, order, wanted)
			want(t, "Compare: error", e, api.OK)
		}
	}
}

func TestCompareErrors(t *testing.T) {
	long := strings.Repeat("N", 65)
	for _, row := range []struct {
		a, b string
		e    api.Errno
	}{
		{"", long, api.ErrEmpty}, {long, "", api.ErrLong}, {"X", long, api.ErrForm}, {"", "X", api.ErrEmpty}, {long, "X", api.ErrLong}, {"X", "", api.ErrForm},
		{"T", "", api.ErrEmpty}, {"T", long, api.ErrLong}, {"T", "X", api.ErrForm}, {"", "T", api.ErrEmpty}, {"X", "T", api.ErrForm},
		{"T", "TT", api.ErrZero}, {"T", "N", api.ErrZero}, {"N", "T", api.ErrZero}, {"TTT", "B", api.ErrZero}, {"B", "TTT", api.ErrZero},
	} {
		order, e := taper.Compare(row.a, row.b)
		want(t, "Compare "+row.a+" "+row.b, order, 0)
		want(t, "Compare: error of "+row.a+" "+row.b, e, row.e)
	}
	for _, bad := range badWords() {
		for _, w := range []string{"NB", "T"} {
			_, e := taper.Compare(bad.w, w)
			want(t, "Compare: error of the first word", e, bad.e)
			_, e = taper.Compare(w, bad.w)
			want(t, "Compare: error of the second word", e, bad.e)
		}
	}
}
