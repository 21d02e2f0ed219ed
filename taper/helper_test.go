package taper_test

import (
	"math"
	"reflect"
	"strings"
	"testing"

	"codend/api"
	"codend/taper"
)

// want reports a result that is not the expected one; empty lists are equal.
func want(t *testing.T, what string, got, wanted any) {
	t.Helper()
	g, w := reflect.ValueOf(got), reflect.ValueOf(wanted)
	if g.Kind() == reflect.Slice && g.Type() == w.Type() && g.Len() == 0 && w.Len() == 0 {
		return
	}
	if !reflect.DeepEqual(got, wanted) {
		t.Errorf("%s: got %v, want %v", what, got, wanted)
	}
}

func knot(x, y int) api.Knot {
	return api.Knot{X: x, Y: y}
}

func ratio(num, den int) api.Ratio {
	return api.Ratio{Num: num, Den: den}
}

func part(bars, letters int) taper.Part {
	return taper.Part{Bars: bars, Letters: letters}
}

type badWord struct {
	w string
	e api.Errno
}

// badWords returns strings that are no words, each with its error.
func badWords() []badWord {
	return []badWord{
		{"", api.ErrEmpty},
		{strings.Repeat("N", 65), api.ErrLong},
		{strings.Repeat("NBT", 1000), api.ErrLong},
		{strings.Repeat("X", 65), api.ErrLong},
		{strings.Repeat("é", 33), api.ErrLong},
		{strings.Repeat("é", 32), api.ErrForm},
		{strings.Repeat("N", 63) + "X", api.ErrForm},
		{"X" + strings.Repeat("N", 63), api.ErrForm},
		{"X", api.ErrForm},
		{"NBX", api.ErrForm},
		{"n", api.ErrForm},
		{"NbT", api.ErrForm},
		{"N B", api.ErrForm},
		{"1N2B", api.ErrForm},
		{"NB\n", api.ErrForm},
		{"\x00", api.ErrForm},
		{"\xff", api.ErrForm},
		{"N\xffB", api.ErrForm},
		{"\uFFFD", api.ErrForm},
		{"\u0392", api.ErrForm},
	}
}

type badRatio struct {
	r api.Ratio
	e api.Errno
}

// badRatios returns ratios that are none, each with its error.
func badRatios() []badRatio {
	return []badRatio{
		{ratio(-1, 1), api.ErrRange},
		{ratio(1000000000, 1), api.ErrRange},
		{ratio(1, 0), api.ErrRange},
		{ratio(1, -1), api.ErrRange},
		{ratio(1, 1000000000), api.ErrRange},
		{ratio(0, 0), api.ErrRange},
		{ratio(-1, -1), api.ErrRange},
		{ratio(-2, 4), api.ErrRange},
		{ratio(2, -4), api.ErrRange},
		{ratio(0, 1000000000), api.ErrRange},
		{ratio(math.MinInt, math.MinInt), api.ErrRange},
		{ratio(math.MaxInt, math.MaxInt), api.ErrRange},
		{ratio(1, math.MinInt), api.ErrRange},
		{ratio(math.MinInt, 1), api.ErrRange},
		{ratio(2, 4), api.ErrForm},
		{ratio(4, 2), api.ErrForm},
		{ratio(0, 2), api.ErrForm},
		{ratio(0, 999999999), api.ErrForm},
		{ratio(2, 2), api.ErrForm},
		{ratio(999999999, 999999999), api.ErrForm},
		{ratio(999999998, 2), api.ErrForm},
		{ratio(3, 999999999), api.ErrForm},
	}
}

func divisor(a, b int) int {
	if b == 0 {
		return a
	}
	return divisor(b, a%b)
}

// someRatios returns all ratios with small numbers, and some with large ones.
func someRatios() []api.Ratio {
	ratios := []api.Ratio{
		ratio(1, 999999999), ratio(999999999, 1), ratio(999999998, 999999999), ratio(999999999, 999999998),
		ratio(2, 999999999), ratio(999999999, 2), ratio(499999999, 999999999), ratio(1, 500000000), ratio(999999999, 999999997),
		ratio(618033989, 999999999), ratio(1, 127), ratio(127, 1), ratio(1, 129), ratio(129, 1), ratio(63, 65), ratio(65, 63), ratio(1, 63), ratio(63, 1), ratio(1, 64), ratio(64, 1),
		ratio(355, 113), ratio(113, 355), ratio(1000, 1001), ratio(1001, 1000), ratio(31, 97), ratio(97, 31),
	}
	for num := range 14 {
		for den := 1; den < 14; den++ {
			if divisor(num, den) == 1 {
				ratios = append(ratios, ratio(num, den))
			}
		}
	}
	return ratios
}

// shortWords returns all words with at most so many letters.
func shortWords(most int) []string {
	words := []string{"N", "B", "T"}
	from := 0
	for range most - 1 {
		to := len(words)
		for _, w := range words[from:to] {
			words = append(words, w+"N", w+"B", w+"T")
		}
		from = to
	}
	return words
}

// longWords returns words of all lengths without an order.
func longWords() []string {
	var words []string
	x := uint32(1)
	for length := 1; length <= api.MaxLetter; length++ {
		for _, letters := range []string{"NBT", "NB", "TB", "NNNNNNT"} {
			w := ""
			for range length {
				x = x*1664525 + 1013904223
				w += string(letters[int(x>>8)%len(letters)])
			}
			words = append(words, w)
		}
	}
	return words
}

func someWords() []string {
	return append(shortWords(5), longWords()...)
}

// extremes are numbers at and beyond all limits.
func extremes() []int {
	return []int{math.MinInt, math.MinInt + 1, -1 << 32, -1000000000, -100001, -100000, -99999, -2, -1, 0, 1, 2, 3, 4, 5, 32, 63, 64, 65, 66, 128, 255, 256, 257,
		99999, 100000, 100001, 999999998, 999999999, 1000000000, 1 << 31, 1 << 32, math.MaxInt - 1, math.MaxInt}
}
