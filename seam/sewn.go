package seam

import (
	"cmp"
	"slices"

	"codend/api"
	"codend/netting"
)

// Sew returns what is sewn.
func Sew(nets [][]api.Bar, l []Join) (Sewn, api.Errno) {
	if e := CheckSeams(nets, l); e != api.OK {
		return Sewn{}, e
	}
	classes := classesOf(placesOf(nets), l)
	s := Sewn{Classes: classes, Bars: barsBetween(nets, classNumbers(classes))}
	if e := checkSize(s); e != api.OK {
		return Sewn{}, e
	}
	return s, api.OK
}

// classesOf puts places that are in order into classes.
func classesOf(places []Place, l []Join) [][]Place {
	classes := groups(places, transformed(l, func(j Join) [2]Place { return [2]Place{j.A, j.B} }))
	for _, class := range classes {
		slices.SortFunc(class, comparePlaces)
	}
	return classes
}

func comparePlaces(a, b Place) int {
	return cmp.Or(cmp.Compare(a.Piece, b.Piece), cmp.Compare(a.Knot.Y, b.Knot.Y), cmp.Compare(a.Knot.X, b.Knot.X))
}

// classNumbers returns for each place the index of its class.
func classNumbers(classes [][]Place) map[Place]int {
	number := map[Place]int{}
	for i, class := range classes {
		for _, p := range class {
			number[p] = i
		}
	}
	return number
}

// barsBetween returns the bars of pieces as pairs of classes.
func barsBetween(nets [][]api.Bar, number map[Place]int) [][2]int {
	var bars [][2]int
	for piece, net := range nets {
		for _, b := range net {
			ends, _ := netting.Ends(b)
			from, to := number[Place{Piece: piece, Knot: ends[0]}], number[Place{Piece: piece, Knot: ends[1]}]
			bars = append(bars, [2]int{min(from, to), max(from, to)})
		}
	}
	return bars
}

func checkSize(s Sewn) api.Errno {
	if len(s.Classes) > MaxSewn || len(s.Bars) > MaxSewn {
		return api.ErrMany
	}
	return api.OK
}

// checkSewn returns the first error of what is sewn, or OK.
func checkSewn(s Sewn) api.Errno {
	if e := first(checkSize(s), checkClasses(s.Classes)); e != api.OK {
		return e
	}
	for _, b := range s.Bars {
		if e := first(checkClass(s, b[0]), checkClass(s, b[1])); e != api.OK {
			return e
		}
		if b[0] > b[1] {
			return api.ErrOrder
		}
	}
	return api.OK
}

func checkClasses(classes [][]Place) api.Errno {
	seen := map[Place]bool{}
	for _, class := range classes {
		if len(class) == 0 {
			return api.ErrEmpty
		}
		for _, p := range class {
			if e := checkPlace(p); e != api.OK {
				return e
			}
			if seen[p] {
				return api.ErrTwice
			}
			seen[p] = true
		}
	}
	return api.OK
}

func checkPlace(p Place) api.Errno {
	return first(checkPiece(p.Piece), netting.CheckKnot(p.Knot))
}

// checkClass returns ErrRange if what is sewn has no class with an index.
func checkClass(s Sewn, class int) api.Errno {
	return checkRange(class, 0, len(s.Classes)-1)
}

// ClassOf returns the index of the class of a knot of a piece.
func ClassOf(s Sewn, p Place) (int, api.Errno) {
	if e := first(checkSewn(s), checkPlace(p)); e != api.OK {
		return 0, e
	}
	class, found := classNumbers(s.Classes)[p]
	if !found {
		return 0, api.ErrNone
	}
	return class, api.OK
}

// Degrees returns how many ends of bars each class has.
func Degrees(s Sewn) ([]int, api.Errno) {
	if e := checkSewn(s); e != api.OK {
		return nil, e
	}
	degrees := make([]int, len(s.Classes))
	for _, b := range s.Bars {
		degrees[b[0]]++
		degrees[b[1]]++
	}
	return degrees, api.OK
}

// Counts returns the numbers of what is sewn.
func Counts(s Sewn) (Count, api.Errno) {
	if e := checkSewn(s); e != api.OK {
		return Count{}, e
	}
	var numbers []int
	for i := range s.Classes {
		numbers = append(numbers, i)
	}
	c := Count{Classes: len(s.Classes), Bars: len(s.Bars), Parts: len(groups(numbers, s.Bars))}
	c.Cycles = c.Bars - c.Classes + c.Parts
	return c, api.OK
}
