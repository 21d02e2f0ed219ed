package hang

import (
	"iter"
	"slices"

	"codend/api"
)

// common is the least common multiple of 1 to MaxParts: with it as the denominator the widths of all meshes have whole numerators, and their sums stay below 2^63.
const common = 2329089562800

// widths visits the sections of a rope: how many meshes each one has, and the numerator of the width of one of them.
func widths(l []Section, bar int) iter.Seq2[int, int] {
	return func(yield func(int, int) bool) {
		for _, s := range l {
			if !yield(s.Meshes, stretched(bar, 1)*s.Ratio.Num*(common/s.Ratio.Den)) {
				return
			}
		}
	}
}

// markAt returns the mark with a numerator.
func markAt(num int) api.Ratio {
	return ratioOf(num, common)
}

func isLarge(r api.Ratio) bool {
	return max(r.Num, r.Den) > api.MaxNumber
}

// Rope returns the length of a rope with several sections.
func Rope(l []Section, bar int) (api.Ratio, api.Errno) {
	if err := checkRope(l, bar); err != api.OK {
		return api.Ratio{}, err
	}
	sum := 0
	for meshes, width := range widths(l, bar) {
		sum += meshes * width
	}
	rope := markAt(sum)
	if isLarge(rope) {
		return api.Ratio{}, api.ErrLarge
	}
	return rope, api.OK
}

// Marks returns where the meshes of a rope are tied.
func Marks(l []Section, bar int) ([]api.Ratio, api.Errno) {
	if err := checkRope(l, bar); err != api.OK {
		return nil, err
	}
	marks := transformed(numerators(l, bar), markAt)
	if slices.ContainsFunc(marks, isLarge) {
		return nil, api.ErrLarge
	}
	return marks, api.OK
}

// numerators returns those of the marks of a rope.
func numerators(l []Section, bar int) []int {
	all := make([]int, meshesOf(l)+1)
	at := 1
	for meshes, width := range widths(l, bar) {
		at += copy(all[at:], steps(all[at-1], width, meshes))
	}
	return all
}

func meshesOf(l []Section) int {
	sum := 0
	for _, s := range l {
		sum += s.Meshes
	}
	return sum
}

// steps returns as many numbers that follow a number at equal distances.
func steps(from, by, count int) []int {
	var l []int
	for i := range count {
		l = append(l, from+(i+1)*by)
	}
	return l
}

// Ties returns after how many meshes each tie of a rope follows.
func Ties(meshes, ties int) ([]int, api.Errno) {
	if err := first(checkMeshes(meshes), checkRange(ties, 1, meshes)); err != api.OK {
		return nil, err
	}
	var l []int
	for i := range ties {
		l = append(l, (i+1)*meshes/ties-i*meshes/ties)
	}
	return l, api.OK
}
