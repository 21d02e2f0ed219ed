package panel

import (
	"codend/api"
	"codend/netting"
)

// Net returns the net of a panel.
func Net(p Panel) ([]api.Bar, api.Errno) {
	if e := CheckPanel(p); e != api.OK {
		return nil, e
	}
	var net []api.Bar
	for y, s := range stripsOf(p) {
		net = append(net, stripBars(y, s)...)
	}
	if len(net) > api.MaxBars {
		return nil, api.ErrMany
	}
	return net, api.OK
}

// stripBars returns the bars of the strip above a row, in the order of bars.
func stripBars(y int, s Strip) []api.Bar {
	var bars []api.Bar
	for x := s.Low[0]; x <= s.Low[1]; x++ {
		if (x+y)%2 != 0 {
			continue
		}
		for _, to := range [2]int{-1, 1} {
			if s.Up[0] <= x+to && x+to <= s.Up[1] {
				bars = append(bars, api.Bar{X: x, Y: y, Side: to})
			}
		}
	}
	return bars
}

// Rows returns the least and the greatest X of each row.
func Rows(p Panel) ([][2]int, api.Errno) {
	net, e := Net(p)
	if e != api.OK {
		return nil, e
	}
	knots, e := netting.Knots(net)
	if e != api.OK {
		return nil, e
	}
	return extents(knots), api.OK
}

// Around returns the least sheet that contains a panel.
func Around(p Panel) (Frame, api.Errno) {
	if e := CheckPanel(p); e != api.OK {
		return Frame{}, e
	}
	lines := outlines(p)
	least, greatest := span(lines)
	if least%2 != 0 {
		least--
	}
	return Frame{At: api.Knot{X: least}, Columns: (greatest - least + 1) / 2, Rows: heightOf(lines[0])}, api.OK
}

// Rest returns the bars of the frame that are not in the panel.
func Rest(p Panel) ([]api.Bar, api.Errno) {
	net, e := Net(p)
	if e != api.OK {
		return nil, e
	}
	f, e := Around(p)
	if e != api.OK {
		return nil, e
	}
	if f.Columns > netting.MaxSide {
		return nil, api.ErrMany
	}
	sheet, e := netting.Sheet(f.At, f.Columns, f.Rows)
	if e != api.OK {
		return nil, e
	}
	return netting.Minus(sheet, net)
}
