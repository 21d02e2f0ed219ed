package netting

import (
	"codend/api"
)

// IsName reports whether a string is a name.
func IsName(s string) bool {
	if len(s) < 1 || len(s) > api.MaxName {
		return false
	}
	for i, r := range s {
		if !isLetter(r) && (i == 0 || !isDigit(r) && r != '_') {
			return false
		}
	}
	return true
}

func isLetter(r rune) bool {
	return r >= 'A' && r <= 'Z' || r >= 'a' && r <= 'z'
}

func isDigit(r rune) bool {
	return r >= '0' && r <= '9'
}

const (
	drawFactor  = 39373
	drawModulus = 2147483647
)

// Draw returns the permutation of n elements by a key.
func Draw(key, n int) ([]int, api.Errno) {
	if e := first(checkRange(key, 1, drawModulus-1), checkRange(n, 0, api.MaxList)); e != api.OK {
		return nil, e
	}
	list := make([]int, 0, n)
	for i := range n {
		list = append(list, i)
	}
	return shuffled(list, int64(key)), api.OK
}

// shuffled exchanges elements in a copy of a list, as the key says.
func shuffled(list []int, key int64) []int {
	out := make([]int, len(list))
	copy(out, list)
	x := key
	for i := len(out) - 1; i >= 1; i-- {
		x = drawFactor * x % drawModulus
		j := int(x % int64(i+1))
		out[i], out[j] = out[j], out[i]
	}
	return out
}
