package taper_test

import (
	"math"
	"strings"
	"testing"

	"codend/api"
	"codend/taper"
)

func TestPower(t *testing.T) {
	for _, row := range []struct {
		w     string
		n     int
		power string
		e     api.Errno
	}{
		{"NB", 3, "NBNBNB", api.OK},
		{"NBT", 1, "NBT", api.OK},
		{"T", 64, strings.Repeat("T", 64), api.OK},
		{"NB", 32, strings.Repeat("NB", 32), api.OK},
		{"NBB", 21, strings.Repeat("NBB", 21), api.OK},
		{strings.Repeat("BT", 32), 1, strings.Repeat("BT", 32), api.OK},
		{"NB", 0, "", api.ErrRange},
		{"NB", -1, "", api.ErrRange},
		{"NB", 65, "", api.ErrRange},
		{"N", 65, "", api.ErrRange},
		{"NB", math.MaxInt, "", api.ErrRange},
		{"NB", math.MinInt, "", api.ErrRange},
		{"NB", 1 << 62, "", api.ErrRange},
		{"NB", 33, "", api.ErrLong},
		{"NBB", 22, "", api.ErrLong},
		{"NB", 64, "", api.ErrLong},
		{strings.Repeat("BT", 32), 2, "", api.ErrLong},
		{strings.Repeat("BT", 32), 64, "", api.ErrLong},
	} {
		power, e := taper.Power(row.w, row.n)
		want(t, "Power "+row.w, power, row.power)
		want(t, "Power: error", e, row.e)
	}
	for _, bad := range badWords() {
		for _, n := range []int{1, 0, 65} {
			power, e := taper.Power(bad.w, n)
			want(t, "Power "+bad.w, power, "")
			want(t, "Power: error", e, bad.e)
		}
	}
}

func TestRotate(t *testing.T) {
	for _, row := range []struct {
		w       string
		n       int
		rotated string
		e       api.Errno
	}{
		{"NBB", 4, "BBN", api.OK},
		{"NBT", 0, "NBT", api.OK},
		{"NBT", 1, "BTN", api.OK},
		{"NBT", 2, "TNB", api.OK},
		{"NBT", 3, "NBT", api.OK},
		{"B", 5, "B", api.OK},
		{"NBTT", 999999998, "TTNB", api.OK},
		{"NBTT", 999999999, "TNBT", api.OK},
		{"NBT", 1000000000, "", api.ErrRange},
		{"NBT", -1, "", api.ErrRange},
		{"NBT", -3, "", api.ErrRange},
		{"NBT", math.MinInt, "", api.ErrRange},
		{"NBT", math.MaxInt, "", api.ErrRange},
	} {
		rotated, e := taper.Rotate(row.w, row.n)
		want(t, "Rotate "+row.w, rotated, row.rotated)
		want(t, "Rotate: error", e, row.e)
	}
	for _, w := range someWords() {
		for n := range 2*len(w) + 1 {
			rotated, e := taper.Rotate(w, n)
			want(t, "Rotate "+w, rotated, strings.Repeat(w, 4)[n:n+len(w)])
			want(t, "Rotate: error", e, api.OK)
		}
	}
	for _, bad := range badWords() {
		for _, n := range []int{0, 1, -1, 1000000000} {
			rotated, e := taper.Rotate(bad.w, n)
			want(t, "Rotate "+bad.w, rotated, "")
			want(t, "Rotate: error", e, bad.e)
		}
	}
}

func TestRoot(t *testing.T) {
	for _, row := range []struct {
		w, root string
		n       int
	}{
		{"NBBNBB", "NBB", 2}, {"NBB", "NBB", 1}, {"NBBN", "NBBN", 1}, {"NBNBN", "NBNBN", 1}, {"T", "T", 1}, {"TTTTTT", "T", 6}, {"NBNBNBNB", "NB", 4}, {"NBNNBN", "NBN", 2}, {"NNBNNBNN", "NNBNNBNN", 1}, {"BBNBBN", "BBN", 2},
		{strings.Repeat("N", 64), "N", 64},
		{strings.Repeat("NB", 32), "NB", 32},
		{strings.Repeat(strings.Repeat("N", 31)+"B", 2), strings.Repeat("N", 31) + "B", 2},
		{strings.Repeat("NBBBT", 12), "NBBBT", 12},
	} {
		root, n, e := taper.Root(row.w)
		want(t, "Root "+row.w, root, row.root)
		want(t, "Root: exponent", n, row.n)
		want(t, "Root: error", e, api.OK)
	}
	for _, bad := range badWords() {
		root, n, e := taper.Root(bad.w)
		want(t, "Root "+bad.w, root, "")
		want(t, "Root: exponent", n, 0)
		want(t, "Root: error", e, bad.e)
	}
}

// TestRootByDefinition compares a word with the powers of all its beginnings.
func TestRootByDefinition(t *testing.T) {
	for _, base := range someWords() {
		for n := 1; n*len(base) <= api.MaxLetter && n < 5; n++ {
			w := strings.Repeat(base, n)
			length := 1
			for strings.Repeat(w[:length], len(w)/length) != w {
				length++
			}
			root, exponent, _ := taper.Root(w)
			want(t, "Root "+w, root, w[:length])
			want(t, "Root: exponent", exponent, len(w)/length)
		}
	}
}

func TestLeast(t *testing.T) {
	for w, least := range map[string]string{"NBBNBB": "BBNBBN", "T": "T", "TNB": "BTN", "NTB": "BNT", "NT": "NT", "TN": "NT", "NNN": "NNN", "NBNBB": "BBNBN", "TBNTBB": "BBTBNT"} {
		got, e := taper.Least(w)
		want(t, "Least "+w, got, least)
		want(t, "Least: error", e, api.OK)
	}
	for _, w := range append(someWords(), shortWords(7)...) {
		least := w
		for n := range len(w) {
			least = min(least, w[n:]+w[:n])
		}
		got, _ := taper.Least(w)
		want(t, "Least "+w, got, least)
	}
	for _, bad := range badWords() {
		got, e := taper.Least(bad.w)
		want(t, "Least "+bad.w, got, "")
		want(t, "Least: error", e, bad.e)
	}
}

// isBalanced counts each letter in each pair of sections.
func isBalanced(w string) bool {
	for k := 1; k < len(w); k++ {
		for _, letter := range []string{"N", "B", "T"} {
			for i := range len(w) {
				for j := range i {
					d := strings.Count((w + w)[i:i+k], letter) - strings.Count((w + w)[j:j+k], letter)
					if d < -1 || d > 1 {
						return false
					}
				}
			}
		}
	}
	return true
}

func TestBalanced(t *testing.T) {
	long := strings.Repeat("NB", 32)
	for w, balanced := range map[string]bool{
		"NBNB": true, "NNBB": false, "N": true, "B": true, "T": true, "NNNN": true, "NBT": true, "NBNT": true, "NBTNBT": true, "NTBB": false, "NNTB": false, "NBBNB": true, "NBBBN": false, "NBNNBNBNNB": true, "NBNNBNNBNB": false, "NBNNB": true,
		"TTNN": false, "TTBB": false, "TBTB": true, "BTTB": false, "NNBNB": true, "NBNTNBN": true, "NTNBTN": false,
		long: true, long[:63]: true, long[:62] + "BN": false, "BN" + long[2:]: false, strings.Repeat("N", 62) + "BB": false, strings.Repeat("N", 31) + "B" + strings.Repeat("N", 31) + "B": true, strings.Repeat("N", 30) + "B" + strings.Repeat("N", 32) + "B": false,
	} {
		got, e := taper.Balanced(w)
		want(t, "isBalanced "+w, isBalanced(w), balanced)
		want(t, "Balanced "+w, got, balanced)
		want(t, "Balanced: error", e, api.OK)
	}
	for _, bad := range badWords() {
		got, e := taper.Balanced(bad.w)
		want(t, "Balanced "+bad.w, got, false)
		want(t, "Balanced: error", e, bad.e)
	}
}

func TestBalancedByDefinition(t *testing.T) {
	for _, w := range shortWords(8) {
		got, _ := taper.Balanced(w)
		want(t, "Balanced "+w, got, isBalanced(w))
	}
	for _, w := range longWords() {
		got, _ := taper.Balanced(w)
		want(t, "Balanced "+w, got, isBalanced(w))
	}
}

// spreadOf is the spread by its definition: the integer part of i m / (m + n) is how often m + n goes into i m.
func spreadOf(a string, m int, b string, n int) string {
	w := ""
	for i := range m + n {
		before, behind := 0, 0
		for (before+1)*(m+n) <= i*m {
			before++
		}
		for (behind+1)*(m+n) <= (i+1)*m {
			behind++
		}
		if behind > before {
			w += a
		} else {
			w += b
		}
	}
	return w
}

func TestSpread(t *testing.T) {
	for _, row := range []struct {
		a    string
		m    int
		b    string
		n    int
		word string
	}{
		{"B", 2, "N", 1, "NBB"}, {"B", 2, "N", 3, "NNBNB"}, {"N", 1, "B", 2, "BBN"}, {"B", 4, "N", 3, "NBNBNBB"}, {"T", 0, "N", 3, "NNN"}, {"T", 3, "N", 0, "TTT"}, {"T", 1, "B", 1, "BT"}, {"B", 1, "T", 1, "TB"}, {"N", 0, "B", 1, "B"}, {"N", 2, "T", 2, "TNTN"},
		{"N", 64, "B", 0, strings.Repeat("N", 64)}, {"N", 0, "B", 64, strings.Repeat("B", 64)}, {"N", 1, "B", 63, strings.Repeat("B", 63) + "N"}, {"N", 32, "B", 32, strings.Repeat("BN", 32)},
	} {
		w, e := taper.Spread(row.a, row.m, row.b, row.n)
		want(t, "Spread", w, row.word)
		want(t, "Spread: error", e, api.OK)
	}
	for m := range 65 {
		for n := range 65 - m {
			if m+n == 0 {
				continue
			}
			w, e := taper.Spread("B", m, "T", n)
			want(t, "Spread", w, spreadOf("B", m, "T", n))
			want(t, "Spread: error", e, api.OK)
		}
	}
}

func TestSpreadErrors(t *testing.T) {
	for _, row := range []struct {
		a string
		m int
		b string
		n int
		e api.Errno
	}{
		{"", 1, "N", 1, api.ErrForm}, {"X", 1, "N", 1, api.ErrForm}, {"b", 1, "N", 1, api.ErrForm}, {"NB", 1, "N", 1, api.ErrForm}, {"NN", 1, "B", 1, api.ErrForm}, {"\xff", 1, "N", 1, api.ErrForm}, {strings.Repeat("N", 65), 1, "B", 1, api.ErrForm}, {"é", 1, "B", 1, api.ErrForm},
		{"N", 1, "", 1, api.ErrForm}, {"N", 1, "X", 1, api.ErrForm}, {"N", 1, "BB", 1, api.ErrForm}, {"N", 1, strings.Repeat("B", 65), 1, api.ErrForm}, {"N", 1, "\uFFFD", 1, api.ErrForm},
		{"N", -1, "B", 1, api.ErrRange}, {"N", 65, "B", 0, api.ErrRange}, {"N", 1, "B", -1, api.ErrRange}, {"N", 0, "B", 65, api.ErrRange}, {"N", math.MinInt, "B", 1, api.ErrRange}, {"N", math.MaxInt, "B", math.MaxInt, api.ErrRange}, {"N", 1, "B", math.MinInt, api.ErrRange},
		{"N", -1, "B", 1 << 40, api.ErrRange}, {"N", 2, "B", -1, api.ErrRange}, {"N", 2, "B", -2, api.ErrRange}, {"N", -2, "B", 2, api.ErrRange},
		{"X", -1, "X", -1, api.ErrForm}, {"N", -1, "X", 1, api.ErrRange}, {"N", 65, "", 1, api.ErrRange}, {"N", 1, "X", -1, api.ErrForm}, {"N", -1, "N", 1, api.ErrRange}, {"N", 1, "N", 65, api.ErrRange}, {"N", 64, "X", 64, api.ErrForm},
		{"N", 1, "N", 1, api.ErrTwice}, {"B", 0, "B", 0, api.ErrTwice}, {"T", 64, "T", 64, api.ErrTwice}, {"B", 0, "B", 1, api.ErrTwice},
		{"N", 0, "B", 0, api.ErrEmpty}, {"T", 0, "N", 0, api.ErrEmpty},
		{"N", 64, "B", 1, api.ErrLong}, {"N", 1, "B", 64, api.ErrLong}, {"N", 33, "B", 32, api.ErrLong}, {"N", 64, "B", 64, api.ErrLong},
	} {
		w, e := taper.Spread(row.a, row.m, row.b, row.n)
		want(t, "Spread", w, "")
		want(t, "Spread: error of "+row.a+" "+row.b, e, row.e)
	}
}

func TestMix(t *testing.T) {
	for _, row := range []struct {
		v    string
		m    int
		w    string
		n    int
		word string
	}{
		{"NB", 1, "B", 2, "BBNB"}, {"B", 2, "NB", 1, "NBBB"}, {"NB", 2, "TB", 3, "TBTBNBTBNB"}, {"N", 1, "N", 1, "NN"}, {"NB", 2, "NB", 3, "NBNBNBNBNB"}, {"NBT", 0, "B", 2, "BB"}, {"NBT", 2, "B", 0, "NBTNBT"}, {"N", 1, "T", 0, "N"}, {"N", 0, "T", 1, "T"},
		{strings.Repeat("N", 64), 1, strings.Repeat("B", 64), 0, strings.Repeat("N", 64)}, {strings.Repeat("N", 64), 0, "B", 64, strings.Repeat("B", 64)},
		{strings.Repeat("N", 31), 2, "B", 2, "B" + strings.Repeat("N", 31) + "B" + strings.Repeat("N", 31)},
		{"NB", 16, "BT", 16, strings.Repeat("BTNB", 16)},
	} {
		w, e := taper.Mix(row.v, row.m, row.w, row.n)
		want(t, "Mix", w, row.word)
		want(t, "Mix: error", e, api.OK)
	}
	for m := range 22 {
		for n := range 33 {
			for _, v := range []string{"NBB", "N", "TBBTB"} {
				w, e := taper.Mix(v, m, "BN", n)
				switch {
				case m+n == 0:
					want(t, "Mix: error", e, api.ErrEmpty)
				case m*len(v)+2*n > 64:
					want(t, "Mix: error", e, api.ErrLong)
				default:
					want(t, "Mix", w, spreadOf(v, m, "BN", n))
					want(t, "Mix: error", e, api.OK)
					continue
				}
				want(t, "Mix", w, "")
			}
		}
	}
}

func TestMixErrors(t *testing.T) {
	for _, row := range []struct {
		v string
		m int
		w string
		n int
		e api.Errno
	}{
		{"N", -1, "B", 1, api.ErrRange}, {"N", 65, "B", 0, api.ErrRange}, {"N", 1, "B", -1, api.ErrRange}, {"N", 0, "B", 65, api.ErrRange}, {"N", math.MinInt, "B", math.MinInt, api.ErrRange}, {"NB", math.MaxInt, "B", math.MaxInt, api.ErrRange}, {"NB", 1 << 62, "B", 1, api.ErrRange}, {"N", 1, "BBBB", 1 << 62, api.ErrRange}, {"N", 2, "B", -2, api.ErrRange},
		{"N", -1, "X", 1, api.ErrRange}, {"N", 65, "", 1, api.ErrRange}, {"N", 1, "X", -1, api.ErrForm}, {"N", 1, "", 65, api.ErrEmpty},
		{"N", 0, "B", 0, api.ErrEmpty}, {"NB", 0, "NB", 0, api.ErrEmpty},
		{"N", 64, "B", 1, api.ErrLong}, {"N", 1, "B", 64, api.ErrLong}, {"NB", 16, "NBB", 11, api.ErrLong}, {"NB", 33, "B", 0, api.ErrLong}, {"N", 0, "NB", 33, api.ErrLong}, {strings.Repeat("N", 64), 1, "B", 1, api.ErrLong}, {strings.Repeat("N", 64), 64, strings.Repeat("N", 64), 64, api.ErrLong},
	} {
		w, e := taper.Mix(row.v, row.m, row.w, row.n)
		want(t, "Mix", w, "")
		want(t, "Mix: error of "+row.v+" "+row.w, e, row.e)
	}
	for _, bad := range badWords() {
		for _, m := range []int{1, 0, -1, 65} {
			w, e := taper.Mix(bad.w, m, "X", -1)
			want(t, "Mix", w, "")
			want(t, "Mix: error of the first word", e, bad.e)
		}
		for _, n := range []int{1, 0, -1, 65} {
			w, e := taper.Mix("NB", 0, bad.w, n)
			want(t, "Mix", w, "")
			want(t, "Mix: error of the second word", e, bad.e)
			_, e = taper.Mix("NB", -1, bad.w, n)
			want(t, "Mix: error before the second word", e, api.ErrRange)
		}
	}
}
