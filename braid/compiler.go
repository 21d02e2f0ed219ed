package braid

import (
	"slices"

	"codend/api"
	"codend/netting"
)

// Compile returns a program for a net with the least number of pieces of twine.
func Compile(net []api.Bar) ([]Course, api.Errno) {
	rows, err := Rows(net)
	if err := first(err, checkRows(rows)); err != api.OK {
		return nil, err
	}
	return bestCourses(transformed(rows, Row.directions)), api.OK
}

func checkRows(rows []Row) api.Errno {
	if len(rows) > MaxCourses {
		return api.ErrMany
	}
	for _, r := range rows {
		if err := checkRange(r.Last-r.First, 1, MaxMoves); err != api.OK {
			return err
		}
	}
	return api.OK
}

// transformed returns a list with each element changed.
func transformed[T, U any](l []T, change func(T) U) []U {
	out := make([]U, 0, len(l))
	for _, x := range l {
		out = append(out, change(x))
	}
	return out
}

// A plan is how the rows behind a course are worked best: how many pieces of twine begin there, and in which direction the next one goes.
type plan struct {
	pieces int
	next   int
}

// bestCourses returns one of both directions of each row, so that the fewest pieces of twine are needed; the first one, the right, is preferred.
func bestCourses(rows [][2]Course) []Course {
	plans := plansOf(rows)
	direction := 0
	if plans[0][1].pieces < plans[0][0].pieces {
		direction = 1
	}
	var l []Course
	for i, both := range rows {
		l = append(l, both[direction])
		direction = plans[i][direction].next
	}
	return l
}

// plansOf returns the plan behind each direction of each row. It begins with the last row, behind which there is nothing.
func plansOf(rows [][2]Course) [][2]plan {
	plans := make([][2]plan, len(rows))
	for behind := range len(rows) - 1 {
		i := len(rows) - 2 - behind
		for direction, c := range rows[i] {
			plans[i][direction] = c.plan(rows[i+1], plans[i+1])
		}
	}
	return plans
}

// plan returns the one behind a course, from both directions of the next row and the plans behind them.
func (c Course) plan(ahead [2]Course, behind [2]plan) plan {
	var pieces [2]int
	for direction, next := range ahead {
		pieces[direction] = behind[direction].pieces
		if !next.follows(c) {
			pieces[direction]++
		}
	}
	if pieces[1] < pieces[0] {
		return plan{pieces: pieces[1], next: 1}
	}
	return plan{pieces: pieces[0]}
}

// CheckCompiled returns OK for a program that makes a net.
func CheckCompiled(net []api.Bar, l []Course) api.Errno {
	if err := first(netting.CheckNet(net), CheckProgram(l)); err != api.OK {
		return err
	}
	if !slices.Equal(netOf(l), net) {
		return api.ErrProof
	}
	return api.OK
}

// Ends returns the least number of pieces of twine that any way to make a net needs.
func Ends(net []api.Bar) (int, api.Errno) {
	parts, err := netting.Parts(net)
	if err != api.OK {
		return 0, err
	}
	sum := 0
	for _, part := range parts {
		legs, _ := netting.Legs(part)
		sum += max((legs[1]+legs[3])/2, 1)
	}
	return sum, api.OK
}
