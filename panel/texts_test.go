package panel_test

import (
	"fmt"
	"regexp"
	"slices"
	"strconv"
	"strings"
	"testing"

	"codend/api"
	"codend/panel"
)

const maxBytes = 16384

// textOf writes panels as the chapter says.
func textOf(l ...panel.Panel) string {
	s := ""
	for _, p := range l {
		s += fmt.Sprintf("panel %s %d\n", p.Name, p.Width)
		for i, side := range [][]panel.Edge{p.Left, p.Right} {
			for _, e := range side {
				s += fmt.Sprintf("%s %s %d %s\n", []string{"left", "right"}[i], e.Word, e.Times, map[bool]string{true: "out", false: "in"}[e.Out])
			}
		}
		s += "end\n"
	}
	return s
}

// several returns panels that differ only in their names.
func several(n int, p panel.Panel) []panel.Panel {
	var l []panel.Panel
	for i := range n {
		p.Name = fmt.Sprintf("%s_%d", p.Name[:1], i)
		l = append(l, p)
	}
	return l
}

// lists returns lists of panels without an error.
func lists() [][]panel.Panel {
	l := [][]panel.Panel{nil, {wing()}, {wing(), named("Wing", 2, wing().Left, wing().Right)}, several(16, wing())}
	all := somePanels()
	for i := range all {
		list := []panel.Panel{}
		for j := range 1 + i%4 {
			p := all[(i+j)%len(all)]
			p.Name = fmt.Sprintf("%.20s_%d", p.Name, j)
			list = append(list, p)
		}
		l = append(l, list)
	}
	return l
}

func TestPrint(t *testing.T) {
	s, e := panel.Print([]panel.Panel{wing()})
	want(t, "Print", s, "panel wing 2\nleft N 1 in\nright BB 1 out\nend\n")
	want(t, "Print: error", e, api.OK)
	s, _ = panel.Print([]panel.Panel{named("b", 10, edges(out("NBT", 1), in("TB", 2)), edges(out("NNB", 1))), wing()})
	want(t, "Print of two", s, "panel b 10\nleft NBT 1 out\nleft TB 2 in\nright NNB 1 out\nend\npanel wing 2\nleft N 1 in\nright BB 1 out\nend\n")
	for _, l := range lists() {
		s, e := panel.Print(l)
		want(t, "Print", s, textOf(l...))
		want(t, "Print: error", e, api.OK)
	}
}

func TestPrintErrors(t *testing.T) {
	bad := panel.Panel{Name: "9"}
	w := wing()
	for _, row := range []struct {
		l []panel.Panel
		e api.Errno
	}{
		{make([]panel.Panel, 17), api.ErrMany},
		{several(17, w), api.ErrMany},
		{slices.Repeat([]panel.Panel{w}, 17), api.ErrMany},
		{[]panel.Panel{w, w}, api.ErrTwice},
		{[]panel.Panel{w, w, bad}, api.ErrTwice},
		{[]panel.Panel{w, bad, w}, api.ErrName},
		{[]panel.Panel{w, named("v", 2, w.Left, w.Right), named("wing", 9, w.Right, w.Left)}, api.ErrTwice},
		{[]panel.Panel{w, named("wing", 0, w.Left, w.Right)}, api.ErrRange},
		{[]panel.Panel{w, named("wing", 1, w.Left, edges(in("BB", 1)))}, api.ErrCross},
	} {
		s, e := panel.Print(row.l)
		want(t, "Print", s, "")
		want(t, "Print: error", e, row.e)
	}
	for _, bad := range badPanels() {
		for _, l := range [][]panel.Panel{{bad.p}, {named("other", 2, w.Left, w.Right), bad.p}, {bad.p, bad.p}, {bad.p, {}}} {
			s, e := panel.Print(l)
			want(t, "Print", s, "")
			want(t, "Print: error", e, bad.e)
		}
	}
}

// listOfSize returns panels whose text has so many bytes: long names make up what ten panels of 64 edges on each side lack.
func listOfSize(t *testing.T, size int) []panel.Panel {
	t.Helper()
	var l []panel.Panel
	side := slices.Repeat(edges(in("N", 1)), 64)
	for i := range 10 {
		l = append(l, named(string("abcdefghij"[i]), 128, slices.Clone(side), slices.Clone(side)))
	}
	lack := size - len(textOf(l...))
	for i := range l {
		more := min(lack, api.MaxName-1)
		l[i].Name += letters("x", more)
		lack -= more
	}
	want(t, "bytes of the text", len(textOf(l...)), size)
	return l
}

func TestLongTexts(t *testing.T) {
	for _, size := range []int{maxBytes - 1, maxBytes, maxBytes + 1} {
		l := listOfSize(t, size)
		s, e := panel.Print(l)
		parsed, index, parseError := panel.Parse(textOf(l...))
		if size > maxBytes {
			want(t, "Print of a long text", s, "")
			want(t, "Print of a long text: error", e, api.ErrLong)
			want(t, "Parse of a long text", parsed, []panel.Panel(nil))
			want(t, "Parse of a long text: index and error", []int{index, int(parseError)}, []int{0, int(api.ErrLong)})
			continue
		}
		want(t, "Print of a long text", s, textOf(l...))
		want(t, "Print of a long text: error", e, api.OK)
		want(t, "Parse of a long text", parsed, l)
		want(t, "Parse of a long text: index and error", []int{index, int(parseError)}, []int{0, 0})
	}
}

func TestParse(t *testing.T) {
	s := "panel a_1 128\nleft NB 2 out\nleft T 1 in\nleft N 1 in\nright B 64 in\nend\n"
	wantParse(t, s, nil, 5, api.ErrShape)
	s = strings.Replace(s, "B 64", "BB 4", 1)
	wantParse(t, s, []panel.Panel{named("a_1", 128, edges(out("NB", 2), in("T", 1), in("N", 1)), edges(in("BB", 4)))}, 0, api.OK)
	s += textOf(wing())
	wantParse(t, s, []panel.Panel{named("a_1", 128, edges(out("NB", 2), in("T", 1), in("N", 1)), edges(in("BB", 4))), wing()}, 0, api.OK)
	wantParse(t, "", nil, 0, api.OK)
	for _, l := range lists() {
		wantParse(t, textOf(l...), l, 0, api.OK)
	}
}

func wantParse(t *testing.T, s string, l []panel.Panel, index int, e api.Errno) {
	t.Helper()
	got, gotIndex, gotError := panel.Parse(s)
	want(t, fmt.Sprintf("Parse of %.80q", s), got, l)
	want(t, fmt.Sprintf("Parse of %.80q: index and error", s), []int{gotIndex, int(gotError)}, []int{index, int(e)})
}

func TestParseLinesInOrder(t *testing.T) {
	const first, left, right, last = "panel a 2\n", "left N 1 in\n", "right N 1 in\n", "end\n"
	for _, row := range []struct {
		s     string
		index int
		e     api.Errno
	}{
		{left, 0, api.ErrSyntax},
		{right, 0, api.ErrSyntax},
		{last, 0, api.ErrSyntax},
		{"\n", 0, api.ErrSyntax},
		{first + first, 1, api.ErrSyntax},
		{first + "\n", 1, api.ErrSyntax},
		{first + left + first, 2, api.ErrSyntax},
		{first + right + first, 2, api.ErrSyntax},
		{first + right + left, 2, api.ErrSyntax},
		{first + left + right + left, 3, api.ErrSyntax},
		{first + left + right + "\n", 3, api.ErrSyntax},
		{first + left + right + last + left, 4, api.ErrSyntax},
		{first + left + right + last + right, 4, api.ErrSyntax},
		{first + left + right + last + last, 4, api.ErrSyntax},
		{first + left + right + last + "\n", 4, api.ErrSyntax},
		{"\n" + first + left + right + last, 0, api.ErrSyntax},
		// a text that ends too early
		{first, 1, api.ErrTorn},
		{first + left, 2, api.ErrTorn},
		{first + right, 2, api.ErrTorn},
		{first + left + left + right + right, 5, api.ErrTorn},
		{first + left + right + last + "panel b 2\n", 5, api.ErrTorn},
		// sides without edges
		{first + last, 1, api.ErrEmpty},
		{first + left + last, 2, api.ErrShape},
		{first + right + last, 2, api.ErrShape},
		{first + "left T 1 in\n" + last, 2, api.ErrEmpty},
		{first + right + right + last, 3, api.ErrShape},
		// the same name
		{first + left + right + last + first + left + right + last, 7, api.ErrTwice},
		{first + left + right + last + first + left + last, 6, api.ErrShape},
		{first + left + right + last + "panel a 0\n" + left + right + last, 7, api.ErrRange},
		{first + left + right + last + "panel A 2\n" + left + right + last, 0, api.OK},
		{first + last + first, 1, api.ErrEmpty},
	} {
		_, index, e := panel.Parse(row.s)
		want(t, "Parse of "+row.s, []int{index, int(e)}, []int{row.index, int(row.e)})
		for cut := 1; cut <= len(row.s); cut++ {
			l, _, e := panel.Parse(row.s[:cut])
			want(t, "Parse of a beginning: nothing beside an error", e != api.OK && len(l) > 0, false)
		}
	}
}

// TestParseWithoutLineFeed cuts each line of a text at each of its bytes.
func TestParseWithoutLineFeed(t *testing.T) {
	s := textOf(wing(), named("other", 2, wing().Left, wing().Right))
	for cut := range len(s) {
		index := strings.Count(s[:cut], "\n")
		switch {
		case cut == 0 || strings.HasSuffix(s[:cut], "end\n"):
			_, _, e := panel.Parse(s[:cut])
			want(t, "Parse of whole panels: error", e, api.OK)
		case s[cut-1] == '\n':
			wantParse(t, s[:cut], nil, index, api.ErrTorn)
		default:
			wantParse(t, s[:cut], nil, index, api.ErrSyntax)
		}
	}
}

func TestParseForms(t *testing.T) {
	for _, line := range []string{
		"panel", "panel ", "panel a", "panel a ", "panel  2", "panel 2", "panel a 2 ", " panel a 2", "panel  a 2", "panel a  2", "panel a 2 3", "panel a b 2",
		"panel a 02", "panel a 00", "panel a +2", "panel a -2", "panel a -0", "panel a 2x", "panel a x", "panel a 1234567890", "panel a 0000000001", "panel a 99999999999999999999", "panel a 18446744073709551618",
		"panel a 1_0", "panel a 0x1", "panel a 1.", "panel a 2\r", "panel a \uff12", "Panel a 2", "panel\ta\t2", "panela 2", "panels a 2", "a 2", "panel a 2\x00", "", " ", "\r",
	} {
		wantParse(t, line+"\n", nil, 0, api.ErrSyntax)
		wantParse(t, textOf(wing())+line+"\n", nil, 4, api.ErrSyntax)
	}
	for _, line := range []string{
		"left", "left ", "left N", "left N 1", "left N 1 ", "left N in", "left N 1 in ", "left N 1 in out", " left N 1 in", "left  N 1 in", "left N  1 in", "left N 1  in", "left  1 in", "left 1 in", "left N N 1 in",
		"left N 01 in", "left N 00 in", "left N +1 in", "left N -1 in", "left N -0 in", "left N x in", "left N 1x in", "left N 1234567890 in", "left N 0000000001 in", "left N 99999999999999999999 in", "left N 1_0 in",
		"left N 1 up", "left N 1 In", "left N 1 OUT", "left N 1 inwards", "left N 1 i", "left N 1 in\r", "left N 1 in\x00", "left N in 1", "Left N 1 in", "lef N 1 in", "leftN 1 in", "left\tN 1 in", "left X 1 up", "left X 0 ", "left X 00 in",
	} {
		wantParse(t, "panel a 2\n"+line+"\n", nil, 1, api.ErrSyntax)
		wantParse(t, "panel a 2\nleft N 1 in\n"+line+"\nend\n", nil, 2, api.ErrSyntax)
		right := strings.Replace(line, "ef", "igh", 1)
		right = strings.Replace(right, "l", "r", 1)
		wantParse(t, "panel a 2\nleft N 1 in\n"+right+"\n", nil, 2, api.ErrSyntax)
		wantParse(t, "panel a 2\nright N 1 in\n"+right+"\n", nil, 2, api.ErrSyntax)
	}
	for _, line := range []string{"end ", " end", "end 1", "End", "ends", "en", "end\r", "end end", "end\x00"} {
		wantParse(t, "panel wing 2\nleft N 1 in\nright BB 1 out\n"+line+"\n", nil, 3, api.ErrSyntax)
	}
}

func TestParseEdges(t *testing.T) {
	for _, bad := range badEdges() {
		if bad.edge.Word == "" || strings.ContainsAny(bad.edge.Word, " \n") || bad.edge.Times < 0 || bad.edge.Times > 999999999 {
			continue // these are no words of a line
		}
		way := map[bool]string{true: "out", false: "in"}[bad.edge.Out]
		for _, side := range []string{"left", "right"} {
			line := fmt.Sprintf("%s %s %d %s\n", side, bad.edge.Word, bad.edge.Times, way)
			wantParse(t, "panel a 2\n"+line, nil, 1, bad.e)
			wantParse(t, textOf(wing())+"panel 9 0\n"+line+line+"x", nil, 5, bad.e)
		}
	}
	wantParse(t, "panel a 2\nleft N 999999999 in\n", nil, 1, api.ErrRange)
	wantParse(t, "panel a 2\nleft N 1000000000 in\n", nil, 1, api.ErrSyntax)
	wantParse(t, "panel a 2\nright N\t 1 in\n", nil, 1, api.ErrForm)
	wantParse(t, "panel a 2\nright N\r 1 in\n", nil, 1, api.ErrForm)
}

func TestParsePanels(t *testing.T) {
	for _, bad := range badPanels() {
		words := edges()
		words = append(append(words, bad.p.Left...), bad.p.Right...)
		if slices.ContainsFunc(words, func(e panel.Edge) bool { return panel.CheckEdge(e) != api.OK }) {
			continue // these lines have an error of their own
		}
		if bad.p.Name == "" || strings.ContainsAny(bad.p.Name, " \n") || bad.p.Width < 0 || bad.p.Width > 999999999 || len(textOf(bad.p)) > maxBytes {
			continue
		}
		wantParse(t, textOf(bad.p), nil, 1+len(words), bad.e)
		wantParse(t, textOf(wing(), bad.p)+"x", nil, 5+len(words), bad.e)
	}
	wantParse(t, "panel a 999999999\nend\n", nil, 1, api.ErrRange)
	wantParse(t, "panel a\t 2\nend\n", nil, 1, api.ErrName)
	wantParse(t, "panel \xff 2\nend\n", nil, 1, api.ErrName)
}

func TestParseManyPanels(t *testing.T) {
	w := wing()
	l := several(17, w)
	wantParse(t, textOf(l[:16]...), l[:16], 0, api.OK)
	wantParse(t, textOf(l...), nil, 64, api.ErrMany)
	wantParse(t, textOf(l[:16]...)+"panel 9 0\n", nil, 64, api.ErrMany)
	wantParse(t, textOf(l[:16]...)+"panel x\n", nil, 64, api.ErrSyntax)
	wantParse(t, textOf(l[:16]...)+"panel x 02\n", nil, 64, api.ErrSyntax)
	wantParse(t, textOf(l[:16]...)+"panel x 2", nil, 64, api.ErrSyntax)
	wantParse(t, textOf(l[:16]...)+"left N 1 in\n", nil, 64, api.ErrSyntax)
	wantParse(t, textOf(append(l[:15:15], l[0])...), nil, 63, api.ErrTwice)
}

func TestParseOfLongStrings(t *testing.T) {
	for _, s := range []string{letters("x", maxBytes+1), letters("\n", maxBytes+1), letters(textOf(wing()), 1000)} {
		wantParse(t, s, nil, 0, api.ErrLong)
	}
	wantParse(t, letters("x", maxBytes), nil, 0, api.ErrSyntax)
	wantParse(t, "panel a 2\n"+letters("left N 1 in\n", 1000), nil, 1001, api.ErrTorn)
	wantParse(t, "panel a 2\n"+letters("left N 1 in\n", 1000)+"end\n", nil, 1001, api.ErrMany)
}

// parsed reads a text line by line with patterns.
func parsed(s string) ([]panel.Panel, int, api.Errno) {
	const number = `(0|[1-9][0-9]{0,8})`
	panelLine, edgeLine := regexp.MustCompile(`^panel ([^ \n]+) `+number+`\n$`), regexp.MustCompile(`^(left|right) ([^ \n]+) `+number+` (in|out)\n$`)
	var l []panel.Panel
	var p *panel.Panel
	lines := strings.SplitAfter(s, "\n")
	if lines[len(lines)-1] == "" {
		lines = lines[:len(lines)-1]
	}
	for i, line := range lines {
		first, edge := panelLine.FindStringSubmatch(line), edgeLine.FindStringSubmatch(line)
		e := api.ErrSyntax
		switch {
		case p == nil && first != nil:
			width, _ := strconv.Atoi(first[2])
			p, e = &panel.Panel{Name: first[1], Width: width}, api.OK
			if len(l) == 16 {
				e = api.ErrMany
			}
		case p != nil && edge != nil && (edge[1] == "right" || len(p.Right) == 0):
			times, _ := strconv.Atoi(edge[3])
			x := panel.Edge{Word: edge[2], Times: times, Out: edge[4] == "out"}
			side := map[string]*[]panel.Edge{"left": &p.Left, "right": &p.Right}[edge[1]]
			*side = append(*side, x)
			e = panel.CheckEdge(x)
		case p != nil && line == "end\n":
			e = panel.CheckPanel(*p)
			if e == api.OK && slices.ContainsFunc(l, func(other panel.Panel) bool { return other.Name == p.Name }) {
				e = api.ErrTwice
			}
			l, p = append(l, *p), nil
		}
		if e != api.OK {
			return nil, i, e
		}
	}
	if p != nil {
		return nil, len(lines), api.ErrTorn
	}
	return l, 0, api.OK
}

// TestParseOfChangedTexts changes a few bytes of texts.
func TestParseOfChangedTexts(t *testing.T) {
	d := &dice{7}
	bytes := []string{" ", "\n", "0", "1", "9", "N", "B", "T", "x", "end\n", "left N 1 in\n", "right N 1 out\n", "panel ", "in", "out", "\xff", "-", "", "", ""}
	count := map[api.Errno]int{}
	for _, l := range lists()[:400] {
		for range 12 {
			s := textOf(l...)
			for range 1 + d.below(2) {
				from := d.below(len(s) + 1)
				to := min(len(s), from+d.below(3))
				s = s[:from] + bytes[d.below(len(bytes))] + s[to:]
			}
			if d.below(8) == 0 {
				s = s[:strings.LastIndex(s[:d.below(len(s)+1)], "\n")+1]
			}
			wanted, index, e := parsed(s)
			wantParse(t, s, wanted, index, e)
			count[e]++
		}
	}
	for _, e := range []api.Errno{api.OK, api.ErrSyntax, api.ErrShape, api.ErrForm, api.ErrTorn, api.ErrRange} {
		if count[e] < 5 {
			t.Errorf("only %d texts with the error %d", count[e], e)
		}
	}
}
