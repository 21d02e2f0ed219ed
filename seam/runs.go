package seam

import (
	"slices"
	"strconv"
	"strings"

	"codend/api"
)

// between stands between the numbers of a word of a string of runs.
const between = "x"

// Runs returns how many meshes of the longer edge each mesh of the shorter one has.
func Runs(m, n int, l [][2]int) ([]int, api.Errno) {
	if e := CheckJoins(m, n, l); e != api.OK {
		return nil, e
	}
	return runsOf(m, n, l), api.OK
}

func runsOf(m, n int, l [][2]int) []int {
	shorter := 0
	if n < m {
		shorter = 1
	}
	runs := make([]int, min(m, n))
	for _, pair := range l {
		runs[pair[shorter]]++
	}
	return runs
}

func checkRuns(l []int) api.Errno {
	switch {
	case len(l) == 0:
		return api.ErrEmpty
	case len(l) > MaxMeshes:
		return api.ErrMany
	}
	sum := 0
	for _, run := range l {
		if e := checkRange(run, 1, MaxMeshes); e != api.OK {
			return e
		}
		sum += run
	}
	if sum > MaxMeshes {
		return api.ErrLarge
	}
	return api.OK
}

// FromRuns returns the pairs of some runs.
func FromRuns(l []int) ([][2]int, api.Errno) {
	if e := checkRuns(l); e != api.OK {
		return nil, e
	}
	var pairs [][2]int
	for i, run := range l {
		for range run {
			pairs = append(pairs, [2]int{i, len(pairs)})
		}
	}
	return pairs, api.OK
}

// Even reports whether runs are spread evenly.
func Even(l []int) (bool, api.Errno) {
	if e := checkRuns(l); e != api.OK {
		return false, e
	}
	for i := range l {
		sums := partSums(l, i+1)
		if slices.Max(sums)-slices.Min(sums) > 1 {
			return false, api.OK
		}
	}
	return true, api.OK
}

// partSums returns the sums of all parts of so many consecutive runs.
func partSums(l []int, size int) []int {
	var sums []int
	sum := 0
	for i, run := range l {
		sum += run
		if i >= size {
			sum -= l[i-size]
		}
		if i >= size-1 {
			sums = append(sums, sum)
		}
	}
	return sums
}

// Rate returns the rate at which two edges are joined, as a string.
func Rate(m, n int) (string, api.Errno) {
	pairs, e := Joins(m, n)
	if e != api.OK {
		return "", e
	}
	return stringOf(runsOf(m, n, pairs)), api.OK
}

// stringOf returns the string of runs.
func stringOf(l []int) string {
	var words []string
	for len(l) > 0 {
		size := groupSize(l)
		words = append(words, strconv.Itoa(size)+between+strconv.Itoa(l[0]))
		l = l[size:]
	}
	return strings.Join(words, " ")
}

// groupSize returns how many runs at the beginning of a list are equal.
func groupSize(l []int) int {
	size := 0
search:
	for _, run := range l {
		switch run {
		case l[0]:
			size++
		default:
			break search
		}
	}
	return size
}

// ParseRate returns the runs of a string.
func ParseRate(s string) ([]int, api.Errno) {
	if len(s) > api.MaxText {
		return nil, api.ErrLong
	}
	words, ok := readWords(s)
	if !ok {
		return nil, api.ErrSyntax
	}
	runs, e := spelledOut(words)
	if e != api.OK {
		return nil, e
	}
	if e := checkRuns(runs); e != api.OK {
		return nil, e
	}
	return runs, api.OK
}

// word is a word of a string of runs: a group of equal ones.
type word struct {
	size int
	run  int
}

// readWords reads the words of a string, and reports whether it has the form of one of runs.
func readWords(s string) ([]word, bool) {
	var words []word
	for i, text := range strings.Split(s, " ") {
		w, ok := readWord(text)
		if !ok || i > 0 && words[i-1].run == w.run {
			return nil, false
		}
		words = append(words, w)
	}
	return words, true
}

func readWord(text string) (word, bool) {
	head, tail, _ := strings.Cut(text, between)
	size, ok := readNumber(head)
	run, also := readNumber(tail)
	return word{size: size, run: run}, ok && also
}

// readNumber reads an integer from 1 to MaxNumber without leading zeros.
func readNumber(digits string) (int, bool) {
	n := 0
	for _, r := range digits {
		if r < '0' || r > '9' || n == 0 && r == '0' {
			return 0, false
		}
		n = 10*n + int(r-'0')
		if n > api.MaxNumber {
			return 0, false
		}
	}
	return n, n > 0
}

// spelledOut returns the runs of all words. The words are counted first: a short string may name very many runs.
func spelledOut(words []word) ([]int, api.Errno) {
	count := 0
	for _, w := range words {
		count += w.size
		if count > MaxMeshes {
			return nil, api.ErrMany
		}
	}
	var runs []int
	for _, w := range words {
		runs = append(runs, slices.Repeat([]int{w.run}, w.size)...)
	}
	return runs, api.OK
}
