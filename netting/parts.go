package netting

import (
	"codend/api"
)

// Parts returns the connected parts of a net.
func Parts(l []api.Bar) ([][]api.Bar, api.Errno) {
	if e := CheckNet(l); e != api.OK {
		return nil, e
	}
	return partsOf(l), api.OK
}

// partsOf begins a new part at each bar that none of the earlier parts has reached, so that the parts come in the order of their first bars.
func partsOf(net []api.Bar) [][]api.Bar {
	number := map[api.Knot]int{}
	count := 0
collect:
	for i := 0; ; i++ {
		switch {
		case i == len(net):
			break collect
		case number[lower(net[i])] == 0:
			count++
			numberFrom(net, lower(net[i]), number, count)
		}
	}
	parts := make([][]api.Bar, count)
	for _, b := range net {
		at := number[lower(b)] - 1
		parts[at] = append(parts[at], b)
	}
	return parts
}

// numberFrom gives a number to all knots that are connected with one.
func numberFrom(net []api.Bar, from api.Knot, number map[api.Knot]int, n int) {
	number[from] = n
	open := []api.Knot{from}
	for len(open) > 0 {
		k := open[len(open)-1]
		open = open[:len(open)-1]
		for _, b := range barsAround(k) {
			next := otherEnd(b, k)
			if number[next] == 0 && hasBar(net, b) {
				number[next] = n
				open = append(open, next)
			}
		}
	}
}

func otherEnd(b api.Bar, k api.Knot) api.Knot {
	if lower(b) == k {
		return upper(b)
	}
	return lower(b)
}

// Count returns the numbers of knots, bars, meshes, parts and holes of a net.
func Count(l []api.Bar) (Counts, api.Errno) {
	if e := CheckNet(l); e != api.OK {
		return Counts{}, e
	}
	c := Counts{Knots: len(degrees(l)), Bars: len(l), Meshes: len(meshesOf(l)), Parts: len(partsOf(l))}
	c.Holes = c.Bars - c.Knots + c.Parts - c.Meshes
	return c, api.OK
}
