package bale

import (
	"strconv"
	"strings"

	"codend/api"
	"codend/panel"
)

// The words for the way in which a piece lies.
const (
	uprightWord = "up"
	turnedWord  = "down"
)

// greatestRead is the greatest integer with six digits, as many as one may have in a text.
const greatestRead = 999999

// Print returns the text of a plan.
func Print(l []panel.Panel, plan []Place) (string, api.Errno) {
	if e := checkLaid(l, plan); e != api.OK {
		return "", e
	}
	var s strings.Builder
	for _, p := range plan {
		s.WriteString(l[p.Piece].Name + " " + wayWord(p.Turned) + " " + strconv.Itoa(p.At) + "\n")
	}
	return s.String(), api.OK
}

func wayWord(turned bool) string {
	if turned {
		return turnedWord
	}
	return uprightWord
}

// Parse returns the plan of a text, and the index of the first line that is wrong.
func Parse(l []panel.Panel, s string) ([]Place, int, api.Errno) {
	if e := CheckPieces(l); e != api.OK {
		return nil, 0, e
	}
	if len(s) > api.MaxText {
		return nil, 0, api.ErrLong
	}
	known := map[string]int{}
	for i, p := range l {
		known[p.Name] = i
	}
	var plan []Place
	for text := range strings.Lines(s) {
		p, e := readPlace(text, known)
		if e := first(e, checkPlace(len(l), plan, p)); e != api.OK {
			return nil, len(plan), e
		}
		plan = append(plan, p)
	}
	return plan, 0, api.OK
}

// readPlace reads a line of a text, with the indices of the pieces by their names.
func readPlace(text string, known map[string]int) (Place, api.Errno) {
	text, ended := strings.CutSuffix(text, "\n")
	words := strings.Split(text, " ")
	if !ended || len(words) != 3 || words[0] == "" || words[1] != uprightWord && words[1] != turnedWord {
		return Place{}, api.ErrSyntax
	}
	at, ok := readNumber(words[2])
	if !ok {
		return Place{}, api.ErrSyntax
	}
	piece, found := known[words[0]]
	if !found {
		return Place{}, api.ErrUnknown
	}
	return Place{Piece: piece, Turned: words[1] == turnedWord, At: at}, api.OK
}

// readNumber accepts an integer only as it would be printed: so it has no leading zeros, no plus, and no minus before 0.
func readNumber(s string) (int, bool) {
	n, err := strconv.Atoi(s)
	if err != nil || strconv.Itoa(n) != s || n < -greatestRead || n > greatestRead {
		return 0, false
	}
	return n, true
}
