package netting

import (
	"strconv"
	"strings"

	"codend/api"
)

// greatestRead is the greatest integer with six digits, as many as one may have in a string.
const greatestRead = 999999

// Print returns the string of a net.
func Print(l []api.Bar) (string, api.Errno) {
	if e := CheckNet(l); e != api.OK {
		return "", e
	}
	var s strings.Builder
	for i, b := range l {
		if beginsLine(l, i) {
			s.WriteString(strconv.Itoa(b.Y) + ":")
		}
		s.WriteString(" " + strconv.Itoa(b.X) + sideMark(b.Side))
		if beginsLine(l, i+1) {
			s.WriteString("\n")
		}
	}
	if s.Len() > MaxBytes {
		return "", api.ErrLong
	}
	return s.String(), api.OK
}

// beginsLine reports whether a line begins at an index of a net; one may be thought to begin behind its last bar.
func beginsLine(net []api.Bar, i int) bool {
	return i == 0 || i == len(net) || net[i].Y != net[i-1].Y
}

func sideMark(side int) string {
	if side == 1 {
		return "/"
	}
	return `\`
}

// Parse returns the net of a string, or the index of the first line that is wrong, with its error.
func Parse(s string) ([]api.Bar, int, api.Errno) {
	if len(s) > MaxBytes {
		return nil, 0, api.ErrLong
	}
	var net []api.Bar
	index := 0
	for text := range strings.Lines(s) {
		line, ok := readLine(text)
		if !ok {
			return nil, index, api.ErrSyntax
		}
		var e api.Errno
		if net, e = withLine(net, line); e != api.OK {
			return nil, index, e
		}
		index++
	}
	return net, 0, api.OK
}

// readLine reads the bars of a line, and reports whether it has the form of one.
func readLine(text string) ([]api.Bar, bool) {
	text, ended := strings.CutSuffix(text, "\n")
	head, tail, parted := strings.Cut(text, ":")
	y, isNumber := readNumber(head)
	words := strings.Split(tail, " ")
	if !ended || !parted || !isNumber || words[0] != "" || len(words) < 2 {
		return nil, false
	}
	var line []api.Bar
	for _, word := range words[1:] {
		b, ok := readBar(word, y)
		if !ok {
			return nil, false
		}
		line = append(line, b)
	}
	return line, true
}

func readBar(word string, y int) (api.Bar, bool) {
	for _, side := range [2]int{-1, 1} {
		if digits, found := strings.CutSuffix(word, sideMark(side)); found {
			x, isNumber := readNumber(digits)
			return api.Bar{X: x, Y: y, Side: side}, isNumber
		}
	}
	return api.Bar{}, false
}

// readNumber accepts an integer only as it would be printed: so it has no leading zeros, no plus, and no minus before 0.
func readNumber(s string) (int, bool) {
	n, err := strconv.Atoi(s)
	if err != nil || strconv.Itoa(n) != s || n < -greatestRead || n > greatestRead {
		return 0, false
	}
	return n, true
}

// withLine returns a net with the bars of its next line.
func withLine(net, line []api.Bar) ([]api.Bar, api.Errno) {
	for i, b := range line {
		if e := first(CheckBar(b), checkLineOrder(net, i, b), checkRoom(net)); e != api.OK {
			return nil, e
		}
		net = append(net, b)
	}
	return net, api.OK
}

// checkLineOrder returns ErrOrder if the bar with an index in its line does not come after those of a net; the first one of a line must be above them.
func checkLineOrder(net []api.Bar, index int, b api.Bar) api.Errno {
	if index == 0 && len(net) > 0 && b.Y <= net[len(net)-1].Y {
		return api.ErrOrder
	}
	return checkOrder(net, b)
}

func checkRoom(net []api.Bar) api.Errno {
	if len(net) >= api.MaxBars {
		return api.ErrMany
	}
	return api.OK
}
