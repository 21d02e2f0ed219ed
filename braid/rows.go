package braid

import (
	"codend/api"
	"codend/netting"
)

// Rows returns the rows of a net.
func Rows(net []api.Bar) ([]Row, api.Errno) {
	if err := netting.CheckNet(net); err != api.OK {
		return nil, err
	}
	if len(net) == 0 {
		return nil, api.ErrEmpty
	}
	rows, ok := rowsOf(net)
	if !ok {
		return nil, api.ErrApart
	}
	return rows, api.OK
}

// rowsOf returns the rows of a net, and whether it hangs together in them. In a net the bars of a row stand from left to right.
func rowsOf(net []api.Bar) ([]Row, bool) {
	rows := []Row{rowOf(net[0])}
	hangs := true
search:
	for _, b := range net[1:] {
		last, next := &rows[len(rows)-1], rowOf(b)
		switch {
		case next.Y == last.Y && next.First == last.Last:
			last.Last = next.Last
		case next.Y == last.Y+1:
			rows = append(rows, next)
		default:
			hangs = false
			break search
		}
	}
	return rows, hangs
}

// rowOf returns the row that one bar makes.
func rowOf(b api.Bar) Row {
	return Row{Y: b.Y, First: min(b.X, b.X+b.Side), Last: max(b.X, b.X+b.Side)}
}

// Gains returns by how much each row of a net begins and ends beyond the one below.
func Gains(net []api.Bar) ([][2]int, api.Errno) {
	rows, err := Rows(net)
	if err != api.OK {
		return nil, err
	}
	var gains [][2]int
	for i, r := range rows[1:] {
		gains = append(gains, [2]int{r.First - rows[i].First, r.Last - rows[i].Last})
	}
	return gains, api.OK
}

// directions returns both courses that follow a row: to the right, and to the left.
func (r Row) directions() [2]Course {
	return [2]Course{r.course(r.First, true), r.course(r.Last, false)}
}

// course returns the one that follows a row from the column of one of its ends.
func (r Row) course(from int, right bool) Course {
	at := r.knot(from)
	return Course{At: at, Right: right, Up: at.Y == r.Y, Bars: r.Last - r.First}
}

// knot returns the one knot of a row that is in a column: the sum of its coordinates is even.
func (r Row) knot(column int) api.Knot {
	return api.Knot{X: column, Y: r.Y + (column+r.Y)&1}
}
