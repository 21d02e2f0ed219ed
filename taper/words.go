package taper

import (
	"cmp"

	"codend/api"
)

const (
	point = 'N'
	bar   = 'B'
	mesh  = 'T'
)

// word is a word that can be tested by its methods.
type word string

func isLetter(r rune) bool {
	return r == point || r == bar || r == mesh
}

// vectors returns the vector of each letter.
func vectors() map[rune][2]int {
	return map[rune][2]int{point: {0, 2}, bar: {1, 1}, mesh: {2, 0}}
}

// CheckWord returns the first error of a word, or OK.
func CheckWord(w string) api.Errno {
	if w == "" {
		return api.ErrEmpty
	}
	return first(checkLength(len(w)), checkLetters(w))
}

// checkLength returns ErrLong if a word with so many letters would be too long.
func checkLength(n int) api.Errno {
	if n > api.MaxLetter {
		return api.ErrLong
	}
	return api.OK
}

func checkLetters(w string) api.Errno {
	for _, letter := range w {
		if !isLetter(letter) {
			return api.ErrForm
		}
	}
	return api.OK
}

// Vector returns the step of a word across and along the running direction.
func Vector(w string) ([2]int, api.Errno) {
	if e := CheckWord(w); e != api.OK {
		return [2]int{}, e
	}
	return vectorOf(w), api.OK
}

func vectorOf(w string) [2]int {
	var sum [2]int
	each := vectors()
	for _, letter := range w {
		v := each[letter]
		sum[0] += v[0]
		sum[1] += v[1]
	}
	return sum
}

// Rate returns the gain of a word for each row.
func Rate(w string) (api.Ratio, api.Errno) {
	if e := CheckWord(w); e != api.OK {
		return api.Ratio{}, e
	}
	if e := checkRate(w); e != api.OK {
		return api.Ratio{}, e
	}
	v := vectorOf(w)
	return lowest(v[0], v[1]), api.OK
}

func checkRate(w string) api.Errno {
	if !hasRate(w) {
		return api.ErrZero
	}
	return api.OK
}

// hasRate reports whether a word has rows.
func hasRate(w string) bool {
	return vectorOf(w)[1] > 0
}

// Compare returns -1, 0 or 1 if the rate of the first word is less than, equal to, or greater than that of the second one.
func Compare(a, b string) (int, api.Errno) {
	if e := first(CheckWord(a), CheckWord(b)); e != api.OK {
		return 0, e
	}
	if e := first(checkRate(a), checkRate(b)); e != api.OK {
		return 0, e
	}
	return compareRates(a, b), api.OK
}

func compareRates(a, b string) int {
	v, w := vectorOf(a), vectorOf(b)
	return cmp.Compare(v[0]*w[1], w[0]*v[1])
}
