package netting

import (
	"slices"

	"codend/api"
)

// place is a knot that can be moved.
type place api.Knot

func (p place) plus(by place) place {
	return place{X: p.X + by.X, Y: p.Y + by.Y}
}

func (p place) mirrored() place {
	return place{X: -p.X, Y: p.Y}
}

func (p place) turned() place {
	return place{X: -p.Y, Y: p.X}
}

// moved returns the net whose bars have the moved ends of those of a net.
func moved(net []api.Bar, motion func(place) place) []api.Bar {
	out := make([]api.Bar, 0, len(net))
	for _, b := range net {
		out = append(out, barBetween(motion(place(lower(b))), motion(place(upper(b)))))
	}
	slices.SortFunc(out, compareBars)
	return out
}

func barBetween(p, q place) api.Bar {
	if p.Y > q.Y {
		p, q = q, p
	}
	return api.Bar{X: p.X, Y: p.Y, Side: q.X - p.X}
}

func shiftedBy(net []api.Bar, by place) []api.Bar {
	return moved(net, func(p place) place { return p.plus(by) })
}

func turnedBy(net []api.Bar, quarters int) []api.Bar {
	out := slices.Clone(net)
	for range quarters {
		out = moved(out, place.turned)
	}
	return out
}

// Shift returns a net that is shifted.
func Shift(l []api.Bar, by api.Knot) ([]api.Bar, api.Errno) {
	if e := first(CheckNet(l), CheckKnot(by)); e != api.OK {
		return nil, e
	}
	return withinPlaces(shiftedBy(l, place(by)))
}

// withinPlaces returns a moved net, or ErrRange if one of its bars lies beyond the greatest place: nothing else can be wrong with it.
func withinPlaces(net []api.Bar) ([]api.Bar, api.Errno) {
	if e := CheckNet(net); e != api.OK {
		return nil, e
	}
	return net, api.OK
}

// Mirror returns the mirror of a net.
func Mirror(l []api.Bar) ([]api.Bar, api.Errno) {
	if e := CheckNet(l); e != api.OK {
		return nil, e
	}
	return moved(l, place.mirrored), api.OK
}

// Turn returns a net that is turned by quarters.
func Turn(l []api.Bar, quarters int) ([]api.Bar, api.Errno) {
	if e := CheckNet(l); e != api.OK {
		return nil, e
	}
	return turnedBy(l, (quarters%4+4)%4), api.OK
}

// Canonical returns the canonical form of a net.
func Canonical(l []api.Bar) ([]api.Bar, api.Errno) {
	if e := CheckNet(l); e != api.OK {
		return nil, e
	}
	var forms [][]api.Bar
	for _, net := range [2][]api.Bar{l, moved(l, place.mirrored)} {
		for quarters := range 4 {
			form, e := withinPlaces(normal(turnedBy(net, quarters)))
			if e != api.OK {
				return nil, e
			}
			forms = append(forms, form)
		}
	}
	return slices.MinFunc(forms, compareNets), api.OK
}

func normal(net []api.Bar) []api.Bar {
	if len(net) == 0 {
		return nil
	}
	return shiftedBy(net, place{X: -net[0].X, Y: -net[0].Y})
}

func compareNets(a, b []api.Bar) int {
	return slices.CompareFunc(a, b, compareBars)
}
