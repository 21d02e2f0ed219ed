package bale

import (
	"codend/api"
	"codend/netting"
	"codend/panel"
)

// Scraps returns the bars that a plan leaves over.
func Scraps(b Bale, l []panel.Panel, plan []Place) ([]api.Bar, api.Errno) {
	if e := CheckPlan(b, l, plan); e != api.OK || len(plan) == 0 {
		return nil, e
	}
	length := lotOf(l).length(plan)
	if length > netting.MaxSide {
		return nil, api.ErrMany
	}
	scraps, e := netting.Sheet(api.Knot{}, length, b.Rows)
	if e != api.OK {
		return nil, e
	}
	for _, p := range plan {
		// The plan fits, so that the net is on the sheet.
		net, _ := netAt(l[p.Piece], p)
		scraps, _ = netting.Minus(scraps, net)
	}
	return scraps, api.OK
}

// use is how many bars of a sheet are used.
type use struct {
	bars int
	all  int
}

// useOf returns the use that a plan makes of the sheet with its length.
func useOf(b Bale, l []panel.Panel, plan []Place) (use, api.Errno) {
	if e := CheckPlan(b, l, plan); e != api.OK {
		return use{}, e
	}
	u := use{all: barsOf(b.Rows, lotOf(l).length(plan))}
	for _, p := range plan {
		u.bars += barsIn(l[p.Piece])
	}
	return u, api.OK
}

// barsOf returns how many bars a sheet has.
func barsOf(rows, length int) int {
	return 2 * rows * length
}

// barsIn returns how many bars a piece has that has been checked, turned or not.
func barsIn(p panel.Panel) int {
	net, _ := panel.Net(p)
	return len(net)
}

// Waste returns how many bars a plan leaves over.
func Waste(b Bale, l []panel.Panel, plan []Place) (int, api.Errno) {
	u, e := useOf(b, l, plan)
	return u.all - u.bars, e
}

// Yield returns the share of the bars that a plan uses.
func Yield(b Bale, l []panel.Panel, plan []Place) (api.Ratio, api.Errno) {
	u, e := useOf(b, l, plan)
	switch {
	case e != api.OK:
		return api.Ratio{}, e
	case len(plan) == 0:
		return api.Ratio{}, api.ErrEmpty
	}
	common := divisor(u.bars, u.all)
	return api.Ratio{Num: u.bars / common, Den: u.all / common}, api.OK
}

// divisor returns the greatest common divisor of two numbers above 0.
func divisor(a, b int) int {
	for b != 0 {
		a, b = b, a%b
	}
	return a
}

// Left returns what is left of a bale behind a plan.
func Left(b Bale, l []panel.Panel, plan []Place) (Bale, api.Errno) {
	if e := CheckPlan(b, l, plan); e != api.OK {
		return Bale{}, e
	}
	left := Bale{Name: b.Name, Rows: b.Rows, Length: b.Length - lotOf(l).length(plan)}
	if left.Length == 0 {
		return Bale{}, api.ErrOver
	}
	return left, api.OK
}
