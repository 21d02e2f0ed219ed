package seam

import (
	"iter"
	"slices"

	"codend/api"
)

func checkNumbers(m, n int) api.Errno {
	return first(checkRange(m, 1, MaxMeshes), checkRange(n, 1, MaxMeshes))
}

// evenPairs visits the pairs of the even join.
func evenPairs(m, n int) iter.Seq[[2]int] {
	return func(yield func([2]int) bool) {
		longer := max(m, n)
		for k := range longer {
			if !yield([2]int{k * m / longer, k * n / longer}) {
				return
			}
		}
	}
}

// Joins returns which meshes of two edges are joined.
func Joins(m, n int) ([][2]int, api.Errno) {
	if e := checkNumbers(m, n); e != api.OK {
		return nil, e
	}
	return slices.Collect(evenPairs(m, n)), api.OK
}

// CheckJoins returns OK for pairs that join two edges.
func CheckJoins(m, n int, l [][2]int) api.Errno {
	if e := checkNumbers(m, n); e != api.OK {
		return e
	}
	if len(l) != max(m, n) {
		return api.ErrShape
	}
	for i, pair := range l {
		if e := first(checkRange(pair[0], 0, m-1), checkRange(pair[1], 0, n-1), checkFollows(m, n, l[:i], pair)); e != api.OK {
			return e
		}
	}
	if last(l) != [2]int{m - 1, n - 1} {
		return api.ErrOpen
	}
	return api.OK
}

func last(l [][2]int) [2]int {
	return l[len(l)-1]
}

// checkFollows returns ErrOrder if a pair cannot stand behind those before it.
func checkFollows(m, n int, before [][2]int, pair [2]int) api.Errno {
	switch {
	case len(before) == 0 && pair == [2]int{}:
		return api.OK
	case len(before) == 0:
		return api.ErrOrder
	}
	from := last(before)
	if !mayRise(pair[0]-from[0], m >= n) || !mayRise(pair[1]-from[1], n >= m) {
		return api.ErrOrder
	}
	return api.OK
}

// mayRise reports whether an index may rise by a number; that in the longer edge, or in both if they are equally long, leaves out no mesh and repeats none.
func mayRise(by int, longest bool) bool {
	return by == 1 || by == 0 && !longest
}

// Takeup returns the ratio of the meshes of two edges.
func Takeup(m, n int) (api.Ratio, api.Errno) {
	if e := checkNumbers(m, n); e != api.OK {
		return api.Ratio{}, e
	}
	by := commonDivisor(m, n)
	return api.Ratio{Num: n / by, Den: m / by}, api.OK
}

func commonDivisor(a, b int) int {
	for b != 0 {
		a, b = b, a%b
	}
	return a
}

// Reverse returns pairs from the other end.
func Reverse(m, n int, l [][2]int) ([][2]int, api.Errno) {
	if e := CheckJoins(m, n, l); e != api.OK {
		return nil, e
	}
	out := slices.Clone(l)
	slices.Reverse(out)
	for i, pair := range out {
		out[i] = [2]int{m - 1 - pair[0], n - 1 - pair[1]}
	}
	return out, api.OK
}

// Compose returns which meshes of the first edge meet which of the third one.
func Compose(a, b [][2]int) ([][2]int, api.Errno) {
	if e := first(checkOwnJoins(a), checkOwnJoins(b)); e != api.OK {
		return nil, e
	}
	if last(a)[1] != last(b)[0] {
		return nil, api.ErrShape
	}
	return composed(a, b), api.OK
}

// checkOwnJoins returns the first error of pairs that join as many meshes as their last pair says.
func checkOwnJoins(l [][2]int) api.Errno {
	if len(l) == 0 {
		return api.ErrEmpty
	}
	m, n := last(l)[0], last(l)[1]
	if e := first(checkRange(m, 0, MaxMeshes-1), checkRange(n, 0, MaxMeshes-1)); e != api.OK {
		return e
	}
	return CheckJoins(m+1, n+1, l)
}

// composed finds the pairs in their order, and equal ones one after the other: both numbers of pairs that join never fall.
func composed(a, b [][2]int) [][2]int {
	partners := map[int][]int{}
	for _, pair := range b {
		partners[pair[0]] = append(partners[pair[0]], pair[1])
	}
	var out [][2]int
	for _, pair := range a {
		for _, k := range partners[pair[1]] {
			out = append(out, [2]int{pair[0], k})
		}
	}
	return slices.Compact(out)
}
