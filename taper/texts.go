package taper

import (
	"strconv"
	"strings"

	"codend/api"
)

// maxDigits is the greatest number of digits in front of a letter.
const maxDigits = 2

// Print returns the string of a word: its runs, each with its count.
func Print(w string) (string, api.Errno) {
	if e := CheckWord(w); e != api.OK {
		return "", e
	}
	var s strings.Builder
	count := 0
	for i, letter := range w {
		count++
		if endsRun(w, i) {
			s.WriteString(strconv.Itoa(count))
			s.WriteRune(letter)
			count = 0
		}
	}
	return s.String(), api.OK
}

// endsRun reports whether a run ends with the letter at an index of a word.
func endsRun(w string, i int) bool {
	return i+1 == len(w) || w[i+1] != w[i]
}

// Parse returns the word with a string, or the index of the run that is wrong.
func Parse(s string) (string, int, api.Errno) {
	if s == "" {
		return "", 0, api.ErrEmpty
	}
	if len(s) > api.MaxText {
		return "", 0, api.ErrLong
	}
	w := ""
	for at := 0; at < len(s); {
		r, ok := readRun(s[at:])
		if !ok {
			return "", at, api.ErrSyntax
		}
		if e := checkLength(len(w) + r.count); e != api.OK {
			return "", at, e
		}
		w += repeated(r.letter, r.count)
		at += r.size
	}
	return w, 0, api.OK
}

// run is a run of letters, and the number of bytes from which it was read.
type run struct {
	letter string
	count  int
	size   int
}

// readRun reads the run at the beginning of a string, and reports whether there is one.
func readRun(s string) (run, bool) {
	count := 0
	for i, r := range s {
		switch {
		case i > 0 && isLetter(r):
			return run{letter: string(r), count: count, size: i + 1}, true
		case i == maxDigits || !isDigit(r) || i == 0 && r == '0':
			return run{}, false
		}
		count = 10*count + int(r-'0')
	}
	return run{}, false
}

func isDigit(r rune) bool {
	return r >= '0' && r <= '9'
}
