package panel

import (
	"slices"
	"strconv"
	"strings"

	"codend/api"
)

// maxBytes is the greatest number of bytes of a text.
const maxBytes = 16384

// The words with which the lines of a text begin.
const (
	panelLine = "panel"
	leftLine  = "left"
	rightLine = "right"
	endLine   = "end"
)

// The words for the way of an edge.
const (
	outwards = "out"
	inwards  = "in"
)

// Print returns the text of panels.
func Print(l []Panel) (string, api.Errno) {
	if e := checkPanels(l); e != api.OK {
		return "", e
	}
	var s strings.Builder
	for _, p := range l {
		s.WriteString(line(panelLine, p.Name, strconv.Itoa(p.Width)))
		s.WriteString(edgeLines(leftLine, p.Left))
		s.WriteString(edgeLines(rightLine, p.Right))
		s.WriteString(line(endLine))
	}
	if s.Len() > maxBytes {
		return "", api.ErrLong
	}
	return s.String(), api.OK
}

func line(words ...string) string {
	return strings.Join(words, " ") + "\n"
}

func edgeLines(kind string, edges []Edge) string {
	var s strings.Builder
	for _, e := range edges {
		way := inwards
		if e.Out {
			way = outwards
		}
		s.WriteString(line(kind, e.Word, strconv.Itoa(e.Times), way))
	}
	return s.String()
}

// Parse returns the panels of a text, and the index of the first line that is wrong.
func Parse(s string) ([]Panel, int, api.Errno) {
	if len(s) > maxBytes {
		return nil, 0, api.ErrLong
	}
	read := reader{before: endLine}
	index, e := 0, api.OK
search:
	for text := range strings.Lines(s) {
		switch e = read.line(text); e {
		case api.OK:
			index++
		default:
			break search
		}
	}
	switch {
	case e != api.OK:
		return nil, index, e
	case read.before != endLine:
		return nil, index, api.ErrTorn
	}
	return read.panels, 0, api.OK
}

// reader is what the lines of a text have said so far: whole panels, the one that is being read, and the kind of the last line.
type reader struct {
	panels []Panel
	panel  Panel
	before string
}

// line reads the next line of a text, or returns its error.
func (r *reader) line(text string) api.Errno {
	text, ended := strings.CutSuffix(text, "\n")
	words := strings.Split(text, " ")
	if !ended || slices.Contains(words, "") || !mayFollow(r.before, words[0]) {
		return api.ErrSyntax
	}
	r.before = words[0]
	switch words[0] {
	case panelLine:
		return r.begin(words[1:])
	case leftLine:
		return addEdge(&r.panel.Left, words[1:])
	case rightLine:
		return addEdge(&r.panel.Right, words[1:])
	}
	return r.end(words[1:])
}

// mayFollow reports whether a kind of line may stand behind another one; the first line of a text stands as if it were behind an end.
func mayFollow(before, kind string) bool {
	switch kind {
	case panelLine:
		return before == endLine
	case leftLine:
		return before == panelLine || before == leftLine
	case rightLine, endLine:
		return before != endLine
	}
	return false
}

func (r *reader) begin(words []string) api.Errno {
	if len(words) != 2 {
		return api.ErrSyntax
	}
	width, ok := readNumber(words[1])
	switch {
	case !ok:
		return api.ErrSyntax
	case len(r.panels) == api.MaxPanels:
		return api.ErrMany
	}
	r.panel = Panel{Name: words[0], Width: width}
	return api.OK
}

// addEdge puts the edge of a line at the end of a side.
func addEdge(edges *[]Edge, words []string) api.Errno {
	if len(words) != 3 || words[2] != outwards && words[2] != inwards {
		return api.ErrSyntax
	}
	times, ok := readNumber(words[1])
	if !ok {
		return api.ErrSyntax
	}
	edge := Edge{Word: words[0], Times: times, Out: words[2] == outwards}
	*edges = append(*edges, edge)
	return CheckEdge(edge)
}

func (r *reader) end(words []string) api.Errno {
	if len(words) != 0 {
		return api.ErrSyntax
	}
	e := checkNext(r.panels, r.panel)
	r.panels = append(r.panels, r.panel)
	return e
}

// readNumber accepts an integer only as it would be printed: so it has no leading zeros and no sign.
func readNumber(s string) (int, bool) {
	n, err := strconv.Atoi(s)
	if err != nil || strconv.Itoa(n) != s || n < 0 || n > api.MaxNumber {
		return 0, false
	}
	return n, true
}
