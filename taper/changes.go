package taper

import (
	"strings"

	"codend/api"
)

// repeated returns a word several times, one after another.
func repeated[W ~string](w W, n int) W {
	return W(strings.Repeat(string(w), n))
}

// Power returns a word several times.
func Power(w string, n int) (string, api.Errno) {
	if e := first(CheckWord(w), checkRange(n, 1, api.MaxLetter)); e != api.OK {
		return "", e
	}
	if e := checkLength(len(w) * n); e != api.OK {
		return "", e
	}
	return repeated(w, n), api.OK
}

// Rotate returns a word whose first letters are moved to its end.
func Rotate(w string, n int) (string, api.Errno) {
	if e := first(CheckWord(w), checkRange(n, 0, api.MaxNumber)); e != api.OK {
		return "", e
	}
	return rotated(w, n%len(w)), api.OK
}

// rotated moves fewer letters than the word has.
func rotated(w string, n int) string {
	letters := make([]byte, len(w))
	rest := copy(letters, w[n:])
	copy(letters[rest:], w[:n])
	return string(letters)
}

// Root returns the shortest word of which a word is a power, and the exponent.
func Root(w string) (string, int, api.Errno) {
	if e := CheckWord(w); e != api.OK {
		return "", 0, e
	}
	length := leastThat(word(w).isPowerOfStart, len(w))
	return w[:length], len(w) / length, api.OK
}

// leastThat returns the least number from 1 on that passes a test, or the greatest one if none below it passes.
func leastThat(passes func(n int) bool, greatest int) int {
	for n := 1; n < greatest; n++ {
		if passes(n) {
			return n
		}
	}
	return greatest
}

// isPowerOfStart reports whether a word is a power of its first letters.
func (w word) isPowerOfStart(length int) bool {
	return len(w)%length == 0 && w == repeated(w[:length], len(w)/length)
}

// Least returns the least rotation of a word.
func Least(w string) (string, api.Errno) {
	if e := CheckWord(w); e != api.OK {
		return "", e
	}
	compare := func(m, n int) int { return strings.Compare(rotated(w, m), rotated(w, n)) }
	least := 0
	for n := range len(w) {
		if compare(n, least) < 0 {
			least = n
		}
	}
	return rotated(w, least), api.OK
}

// Balanced reports whether the letters of a word are spread evenly.
func Balanced(w string) (bool, api.Errno) {
	if e := CheckWord(w); e != api.OK {
		return false, e
	}
	length := leastThat(word(w).isUneven, len(w))
	return length == len(w), api.OK
}

// isUneven reports whether two sections of so many letters have numbers of a letter that differ by more than 1.
func (w word) isUneven(length int) bool {
	circle := string(repeated(w, 2))
	for _, letter := range [3]string{string(point), string(bar), string(mesh)} {
		least, most := length, 0
		for at := range len(w) {
			count := strings.Count(circle[at:at+length], letter)
			least, most = min(least, count), max(most, count)
		}
		if most-least > 1 {
			return true
		}
	}
	return false
}

// Spread returns the word in which some letters are spread among others.
func Spread(a string, m int, b string, n int) (string, api.Errno) {
	if e := first(checkLetter(a), checkRange(m, 0, api.MaxLetter), checkLetter(b), checkRange(n, 0, api.MaxLetter)); e != api.OK {
		return "", e
	}
	if a == b {
		return "", api.ErrTwice
	}
	return spreadWithin(a, m, b, n)
}

func checkLetter(s string) api.Errno {
	if len(s) != 1 {
		return api.ErrForm
	}
	return checkLetters(s)
}

// Mix returns the word in which some copies of a word are spread among copies of another one.
func Mix(v string, m int, w string, n int) (string, api.Errno) {
	if e := first(CheckWord(v), checkRange(m, 0, api.MaxLetter), CheckWord(w), checkRange(n, 0, api.MaxLetter)); e != api.OK {
		return "", e
	}
	return spreadWithin(v, m, w, n)
}

// spreadWithin returns a spread of words if it is a word itself.
func spreadWithin(v string, m int, w string, n int) (string, api.Errno) {
	if m+n == 0 {
		return "", api.ErrEmpty
	}
	if e := checkLength(m*len(v) + n*len(w)); e != api.OK {
		return "", e
	}
	return spread(v, m, w, n), api.OK
}

func spread(v string, m int, w string, n int) string {
	var s strings.Builder
	for i := range m + n {
		if (i+1)*m/(m+n) > i*m/(m+n) {
			s.WriteString(v)
		} else {
			s.WriteString(w)
		}
	}
	return s.String()
}
