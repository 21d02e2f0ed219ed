package seam

import (
	"codend/api"
)

// first returns the first of some errors that is one, or OK.
func first(errs ...api.Errno) api.Errno {
	for _, e := range errs {
		if e != api.OK {
			return e
		}
	}
	return api.OK
}

func checkRange(n, least, greatest int) api.Errno {
	if n < least || n > greatest {
		return api.ErrRange
	}
	return api.OK
}

// transformed returns a list with each element changed.
func transformed[T, U any](l []T, change func(T) U) []U {
	out := make([]U, 0, len(l))
	for _, x := range l {
		out = append(out, change(x))
	}
	return out
}

// setOf returns the elements of a list as a set.
func setOf[T comparable](l []T) map[T]bool {
	set := map[T]bool{}
	for _, x := range l {
		set[x] = true
	}
	return set
}

// groups puts nodes into one group if links lead from one to the other one. Groups come in the order of their first nodes.
func groups[T comparable](nodes []T, links [][2]T) [][]T {
	next := map[T][]T{}
	for _, ends := range links {
		next[ends[0]] = append(next[ends[0]], ends[1])
		next[ends[1]] = append(next[ends[1]], ends[0])
	}
	seen := map[T]bool{}
	var all [][]T
	for _, node := range nodes {
		if !seen[node] {
			all = append(all, reached(node, next, seen))
		}
	}
	return all
}

// reached returns the nodes to which links lead from one, and marks them as seen.
func reached[T comparable](from T, next map[T][]T, seen map[T]bool) []T {
	seen[from] = true
	group := []T{from}
	for i := 0; i < len(group); i++ {
		for _, to := range next[group[i]] {
			if !seen[to] {
				seen[to] = true
				group = append(group, to)
			}
		}
	}
	return group
}
